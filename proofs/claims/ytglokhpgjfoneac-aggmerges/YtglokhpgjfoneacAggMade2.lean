/- A row that is made and appended to beside a call, in either order. -/
import Derived.Test.YtglokhpgjfoneacAggMade
import Derived.Test.YtglokhpgjfoneacAggEq
import Derived.Test.YtglokhpgjfoneacAggSmall
namespace Go.Proofs.Ytglokhpgjfoneac
open Go.RowKit

theorem run_pick (P : Program) (o : Oper) (x y z : Operand) (ho : o.op = .pick x y z) (ev : Operand → Value) (w : World) (hx : ev x = .bool true) : (execOp ev o).run P w = .ok (.value (ev y)) w := by
  unfold execOp
  rw [ho]
  simp [go_sem, hx]
theorem run_assign (P : Program) (o : Oper) (x : Operand) (ho : o.op = .assign x) (ev : Operand → Value) (w : World) : (execOp ev o).run P w = .ok (.value (ev x)) w := by
  unfold execOp
  rw [ho]
  simp [go_sem]
theorem run_eql_ag (o : Oper) (x y : Operand) (t : TypeId) (ho : o.op = .binOp .eql 24 x y t) (ev : Operand → Value) (w : World) (V : Ag) (hx : ev x = .agg #[.int .i64 V.c, .int .i64 V.s, .int .i64 V.mn, .int .i64 V.mx]) (hy : ev y = .agg #[.int .i64 V.c, .int .i64 V.s, .int .i64 V.mn, .int .i64 V.mx]) : (execOp ev o).run Try.prog w = .ok (.value (.bool true)) w := by
  have q := equal_ag V.c V.s V.mn V.mx
  unfold execOp
  rw [ho]
  go_simp
theorem run_build0 (o : Oper) (ho : o.op = .buildSlice 22 0 #[]) (ev : Operand → Value) (w : World) : (execOp ev o).run Try.prog w = .ok (.value (.slice (some ⟨w.heap.size, 0, none⟩) 0 0)) (w.alloc (.cells #[] 2)) := by
  unfold execOp
  rw [ho]
  go_simp
theorem wp_append_from {P : Program} {w : World} {o : Oper} {a : Act} {K : Act → World → Prop} {Q : Exit → Act → World → Prop} (s x : Operand) (t : TypeId)
    (ho : o.op = .call { callee := .builtin .append, args := #[s, x], argTypes := #[t, t] })
    (base : Nat) (e : TypeId) (i : TypeInfo) (z : Value) (bytes : Nat) (ht : P.underlying t = some (.slice e)) (hi : P.info? e = some i) (hz : i.zero = some z)
    (hsize : i.size = 1) (hby : i.bytes = bytes) (hzs : z.cells.size = 1)
    (v : Value) (n : Nat) (xs : List Value) (hs : a.eval s = v) (hown : w.ownsRow base e 1 v n xs)
    (B : Nat) (A : Option Addr) (m c : Nat) (news : List Value) (hx : a.eval x = .slice A m c) (hl : Lies w B A m news) (hnil : A = none → c = 0) (h1 : ∀ u ∈ news, u.oneCell' = true)
    (h63 : n + m ≤ maxLen) (hbytes : (n + m) * bytes ≤ 140737488355328) (hbase : base ≤ w.heap.size)
    (h : ∀ A' c' w', w'.ownsRow base e 1 (.slice A' (n + m) c') (n + m) (xs ++ news) → w.grownBy w' v.ownBlock → K (a.put o.dst (.slice A' (n + m) c')) w') :
    o.wp P a w K Q := by
  obtain ⟨v', w', hr, h2, h3, h5⟩ := run_append_from (P := P) (w := w) base t o.type e i z bytes ht hi hz hsize hby hzs v n xs hown B A m c news hl hnil h1 h63 hbytes hbase
  obtain ⟨A', c', rfl, _⟩ := Lies.of_row h2
  unfold Oper.wp execOp
  simp only [ho, resolve, invoke, builtin, Sem.run_bind, Sem.run_pure, Result.andThen_ok, List.map_toArray, List.map_cons, List.map_nil, hs, hx, hr]
  exact h A' c' w' h2 h3

def mgVal (M : Ag) (v5 v7 v9 : Value) (k : Nat) : Value := if k = 54 then .agg #[.int .i64 M.c, .int .i64 M.s, .int .i64 M.mn, .int .i64 M.mx] else if k = 55 then v5 else if k = 57 then v7 else if k = 59 then v9 else if k = 60 then .agg #[.int .i64 M.c, .int .i64 M.s, .int .i64 M.mn, .int .i64 M.mx] else .bool true
structure Mg (W0 : World) (M : Ag) (n m : Nat) (xs ys : List Int) (a0 : Act) (L : Nat) (a : Act) (w : World) (v5 v7 v9 : Value) : Prop where
  at_ : At a0 [(54, 92), (55, 93), (57, 95), (59, 97), (60, 98), (61, 99), (62, 100), (63, 8)] (mgVal M v5 v7 v9) L a
  keep : Keep W0 w
  r5 : L.testBit 55 = true → L.testBit 57 = false → w.ownsRow W0.heap.size 2 1 v5 0 []
  r7 : L.testBit 57 = true → L.testBit 59 = false → w.ownsRow W0.heap.size 2 1 v7 n (vals .i64 xs)
  r9 : L.testBit 59 = true → w.ownsRow W0.heap.size 2 1 v9 (n + m) (vals .i64 xs ++ vals .i64 ys)
  o9 : L.testBit 59 = true → L.testBit 57 = true
  pre : ∀ k, k < 64 → k ≠ 54 → k ≠ 55 → k ≠ 57 → k ≠ 59 → k ≠ 60 → k ≠ 61 → k ≠ 62 → k ≠ 63 → L.testBit k = true
theorem own_up {w w' : World} {base : Nat} {v : Value} {n : Nat} {xs : List Value} (h : w.ownsRow base 2 1 v n xs) (hk : Keep w w') : w'.ownsRow base 2 1 v n xs := ownsRow_only h (Only.of_keep (fun _ => False) hk) (fun _ _ h => h)
/-- A step that keeps the rows. -/
theorem Mg.quiet {W0 : World} {M : Ag} {n m : Nat} {xs ys : List Int} {a0 : Act} {L : Nat} {a : Act} {w w' : World} {v5 v7 v9 : Value} (h : Mg W0 M n m xs ys a0 L a w v5 v7 v9) (hk : Keep w w') (i d : Nat) (v : Value) (hi : i ≠ 55 ∧ i ≠ 57 ∧ i ≠ 59)
    (hj : [((54 : Nat), (92 : Nat)), (55, 93), (57, 95), (59, 97), (60, 98), (61, 99), (62, 100), (63, 8)].contains (i, d) = true) (hD : ([((54 : Nat), (92 : Nat)), (55, 93), (57, 95), (59, 97), (60, 98), (61, 99), (62, 100), (63, 8)].all fun p => (p.2 == d) == (p.1 == i)) = true) (hd : d < a0.tmps.size) (hv : mgVal M v5 v7 v9 i = v) :
    Mg W0 M n m xs ys a0 (L ||| 1 <<< i) (a.put (some d) v) w' v5 v7 v9 := by
  refine ⟨h.at_.step _ i d v hj hD hd hv (fun _ _ _ => rfl), h.keep.trans hk, fun h1 h2 => ?_, fun h1 h2 => ?_, fun h1 => ?_, fun h1 => ?_, fun k h0 h1 h2 h3 h4 h5 h6 h7 h8 => ?_⟩
  · rw [testBit_one (by omega)] at h1 h2
    exact own_up (h.r5 h1 h2) hk
  · rw [testBit_one (by omega)] at h1 h2
    exact own_up (h.r7 h1 h2) hk
  · rw [testBit_one (by omega)] at h1
    exact own_up (h.r9 h1) hk
  · rw [testBit_one (by omega)] at h1 ⊢
    exact h.o9 h1
  · rw [testBit_add, h.pre k h0 h1 h2 h3 h4 h5 h6 h7 h8]; rfl
theorem want_some {ops : Array Oper} {o : Oper} {a0 a : Act} {D : List (Nat × Nat)} {val : Nat → Value} {L : Nat} (h : At a0 D val L a) (k : Nat) (hg : gslot ops o = some (some k, true)) (hk : (D.all fun p => p.2 != k) = true) (hlt : k < a0.tmps.size) (hv : a0.eval (.tmp k) = .bool true) : wantR (gslot ops o) a.tmps = true := by
  have h1 := h.eval k hk
  rw [hv] at h1
  have hs : k < a.tmps.size := by rw [h.size]; exact hlt
  have h2 : a.tmps[k]? = some (.bool true) := by
    rw [Array.getElem?_eq_getElem hs]
    have : a.eval (.tmp k) = a.tmps[k] := by simp [Act.eval, Array.getD, hs]
    rw [← this, h1]
  rw [hg]
  simp [wantR, h2]

theorem mg55 (M : Ag) (v5 v5' v7 v9 : Value) (k : Nat) (h : k ≠ 55) : mgVal M v5' v7 v9 k = mgVal M v5 v7 v9 k := by simp [mgVal, h]
theorem mg57 (M : Ag) (v5 v7 v7' v9 : Value) (k : Nat) (h : k ≠ 57) : mgVal M v5 v7' v9 k = mgVal M v5 v7 v9 k := by simp [mgVal, h]
theorem mg59 (M : Ag) (v5 v7 v9 v9' : Value) (k : Nat) (h : k ≠ 59) : mgVal M v5 v7 v9' k = mgVal M v5 v7 v9 k := by simp [mgVal, h]

theorem merges_rest {Q : Exit → Act → World → Prop} {W0 : World} {M x y : Ag} {n m cA cB : Nat} {A B : Option Addr} {xs ys : List Int} {a0 : Act} {ops : Array Oper} (ms : List Msk) (hms : ms = ops.toList.map (mskOf ops)) (hlow : lowFrom 0 ms = true) (hsz : ops.size = 64) (hs0 : a0.tmps.size = 101)
    (k54 : ∃ o : Oper, ops[54]? = some o ∧ o.dst = some 92 ∧ o.op = .call { callee := .value (.tmp 89), args := #[.tmp 90, .tmp 91], argTypes := #[24, 24] } ∧ gslot ops o = some (some 88, true))
    (k55 : ∃ o : Oper, ops[55]? = some o ∧ o.dst = some 93 ∧ o.op = .buildSlice 22 0 #[] ∧ gslot ops o = some (some 88, true))
    (k57 : ∃ o : Oper, ops[57]? = some o ∧ o.dst = some 95 ∧ o.op = .call { callee := .builtin .append, args := #[.tmp 93, .tmp 94], argTypes := #[22, 22] } ∧ gslot ops o = some (some 88, true))
    (k59 : ∃ o : Oper, ops[59]? = some o ∧ o.dst = some 97 ∧ o.op = .call { callee := .builtin .append, args := #[.tmp 95, .tmp 96], argTypes := #[22, 22] } ∧ gslot ops o = some (some 88, true))
    (k60 : ∃ o : Oper, ops[60]? = some o ∧ o.dst = some 98 ∧ o.op = .call { callee := .value (.func 13), args := #[.tmp 97], argTypes := #[22] } ∧ gslot ops o = some (some 88, true))
    (k61 : ∃ o : Oper, ops[61]? = some o ∧ o.dst = some 99 ∧ o.op = .binOp .eql 24 (.tmp 92) (.tmp 98) 24 ∧ gslot ops o = some (some 88, true))
    (k62 : ∃ o : Oper, ops[62]? = some o ∧ o.dst = some 100 ∧ o.op = .pick (.tmp 88) (.tmp 99) (.const (.bool false)) ∧ o.guard = none)
    (k63 : ∃ o : Oper, ops[63]? = some o ∧ o.dst = some 8 ∧ o.op = .assign (.tmp 100) ∧ o.guard = none)
    (t57 : ∀ m : Msk, ms[57]? = some m → m.aft.testBit 55 = true)
    (t59 : ∀ m : Msk, ms[59]? = some m → m.aft.testBit 57 = true)
    (t60 : ∀ m : Msk, ms[60]? = some m → m.aft.testBit 59 = true)
    (t61 : ∀ m : Msk, ms[61]? = some m → m.aft.testBit 54 = true ∧ m.aft.testBit 60 = true)
    (t62 : ∀ m : Msk, ms[62]? = some m → m.aft.testBit 61 = true)
    (t63 : ∀ m : Msk, ms[63]? = some m → m.aft.testBit 62 = true)
    (e88 : a0.eval (.tmp 88) = .bool true) (e89 : a0.eval (.tmp 89) = .func (.func 15) #[] #[]) (e90 : a0.eval (.tmp 90) = .agg #[.int .i64 x.c, .int .i64 x.s, .int .i64 x.mn, .int .i64 x.mx]) (e91 : a0.eval (.tmp 91) = .agg #[.int .i64 y.c, .int .i64 y.s, .int .i64 y.mn, .int .i64 y.mx])
    (e94 : a0.eval (.tmp 94) = .slice A n cA) (e96 : a0.eval (.tmp 96) = .slice B m cB)
    (cM : ∀ w, Calls Try.prog 15 #[.agg #[.int .i64 x.c, .int .i64 x.s, .int .i64 x.mn, .int .i64 x.mx], .agg #[.int .i64 y.c, .int .i64 y.s, .int .i64 y.mn, .int .i64 y.mx]] w fun e w' => e = .returned (.agg #[.int .i64 M.c, .int .i64 M.s, .int .i64 M.mn, .int .i64 M.mx]) ∧ Keep w w')
    (cO : ∀ w A' c', Lies w w.heap.size A' (n + m) (vals .i64 (xs ++ ys)) → Calls Try.prog 13 #[.slice A' (n + m) c'] w fun e w' => e = .returned (.agg #[.int .i64 M.c, .int .i64 M.s, .int .i64 M.mn, .int .i64 M.mx]) ∧ Keep w w')
    (la : Lies W0 W0.heap.size A n (vals .i64 xs)) (lb : Lies W0 W0.heap.size B m (vals .i64 ys)) (na : A = none → cA = 0) (nb : B = none → cB = 0) (hn : n ≤ 100) (hm : m ≤ 100)
    (hend : ∀ v5 v7 v9 w, Keep W0 w → Q .normal (putAll a0 [(54, 92), (55, 93), (57, 95), (59, 97), (60, 98), (61, 99), (62, 100), (63, 8)] (mgVal M v5 v7 v9)) w)
    (listed : Array Bool) (w : World) (hL : Listed ops.size listed 378302368699121663) (hn0 : ∀ k, (378302368699121663 : Nat).testBit k = true → k < ops.size) (hk : Keep W0 w) (fuel : Nat) (hfu : missing 378302368699121663 64 = fuel) :
    wpAnyH Try.prog .any ops Q (fun w' => Keep W0 w') fuel listed a0 w := by
  obtain ⟨i0, hi, hz0, hz1, hz2⟩ := info_parts infoI64
  refine every_rest (S := fun w' => Keep W0 w') ops ms hms hlow (fun L a w => ∃ v5 v7 v9, Mg W0 M n m xs ys a0 L a w v5 v7 v9) ?_ ?_ fuel listed _ a0 w hL hn0 (by rw [hsz]; exact hfu) ?_
  · rintro i o mm L a w ho hmm ⟨v5, v7, v9, h⟩ hb0 ha
    have hi6 : i < 64 := by rw [← hsz]; exact (Array.getElem?_eq_some_iff.1 ho).1
    have hcs : i = 54 ∨ i = 55 ∨ i = 57 ∨ i = 59 ∨ i = 60 ∨ i = 61 ∨ i = 62 ∨ i = 63 := by
      apply Classical.byContradiction
      intro hno
      have := h.pre i hi6 (by omega) (by omega) (by omega) (by omega) (by omega) (by omega) (by omega) (by omega)
      rw [this] at hb0
      cases hb0
    rcases hcs with rfl | rfl | rfl | rfl | rfl | rfl | rfl | rfl
    · obtain ⟨o', ho', e1, e2, e3⟩ := k54
      rw [ho'] at ho
      obtain rfl := Option.some.inj ho
      rw [want_some h.at_ 88 e3 rfl (by rw [hs0]; decide) e88, if_pos rfl]
      refine wp_callv e2 ((h.at_.eval 89 rfl).trans e89) Try.call15 (args := #[.agg #[.int .i64 x.c, .int .i64 x.s, .int .i64 x.mn, .int .i64 x.mx], .agg #[.int .i64 y.c, .int .i64 y.s, .int .i64 y.mn, .int .i64 y.mx]]) ?_ (cM w) ?_
      · simp only [List.map_toArray, List.map_cons, List.map_nil]
        rw [h.at_.eval 90 rfl, h.at_.eval 91 rfl, e90, e91]
      · intro w' hk
        rw [e1]
        exact ⟨h.keep.trans hk, v5, v7, v9, h.quiet hk 54 92 _ (by decide) rfl rfl (by rw [hs0]; decide) rfl⟩
    · obtain ⟨o', ho', e1, e2, e3⟩ := k55
      rw [ho'] at ho
      obtain rfl := Option.some.inj ho
      rw [want_some h.at_ 88 e3 rfl (by rw [hs0]; decide) e88, if_pos rfl]
      refine wp_value (run_build0 _ e2 _ _) ?_
      rw [e1]
      have hkw := (Keep.refl w).alloc (.cells #[] 2)
      refine ⟨h.keep.trans hkw, .slice (some ⟨w.heap.size, 0, none⟩) 0 0, v7, v9, h.at_.step _ 55 93 _ rfl rfl (by rw [hs0]; decide) rfl (fun k hne _ => mg55 _ _ _ _ _ _ hne), h.keep.trans hkw, fun _ _ => ?_, fun h1 h2 => ?_, fun h1 => ?_, fun h1 => ?_, fun k q0 q1 q2 q3 q4 q5 q6 q7 q8 => ?_⟩
      · exact World.ownsRow_made w #[] 0 h.keep.size (by simp) rfl
      · rw [testBit_one (by decide)] at h1 h2
        exact own_up (h.r7 h1 h2) hkw
      · rw [testBit_one (by decide)] at h1
        exact own_up (h.r9 h1) hkw
      · rw [testBit_one (by decide)] at h1 ⊢
        exact h.o9 h1
      · rw [testBit_add, h.pre k q0 q1 q2 q3 q4 q5 q6 q7 q8]; rfl
    · obtain ⟨o', ho', e1, e2, e3⟩ := k57
      rw [ho'] at ho
      obtain rfl := Option.some.inj ho
      rw [want_some h.at_ 88 e3 rfl (by rw [hs0]; decide) e88, if_pos rfl]
      have tb := test_of_sub ha 55 (t57 mm hmm)
      have row := h.r5 tb hb0
      have h59 : L.testBit 59 = false := by
        cases hb : L.testBit 59
        · rfl
        · rw [h.o9 hb] at hb0; cases hb0
      refine wp_append_from (.tmp 93) (.tmp 94) 22 e2 W0.heap.size 2 i0 (.int .i64 0) 8 Try.underlying22 hi hz0 hz1 hz2 rfl v5 0 [] (h.at_.got 55 93 rfl tb) row W0.heap.size A n cA (vals .i64 xs) ((h.at_.eval 94 rfl).trans e94) (la.below h.keep) na (vals_one _ _) (by unfold maxLen; omega) (by omega) h.keep.size ?_
      intro A' c' w' hown hgrow
      rw [e1]
      rw [Nat.zero_add, List.nil_append] at hown
      rw [Nat.zero_add]
      have hkw : Keep W0 w' := Only.keep h.keep ((Only.refl (fun q => v5.ownBlock = some q) _).grown hgrow (fun q _ e => e)) (fun q e => (row.lt q e).1)
      refine ⟨hkw, v5, .slice A' n c', v9, h.at_.step _ 57 95 _ rfl rfl (by rw [hs0]; decide) rfl (fun k hne _ => mg57 _ _ _ _ _ _ hne), hkw, fun _ h2 => ?_, fun _ _ => hown, fun h1 => ?_, fun _ => ?_, fun k q0 q1 q2 q3 q4 q5 q6 q7 q8 => ?_⟩
      · rw [testBit_self] at h2; cases h2
      · rw [testBit_one (by decide), h59] at h1; cases h1
      · exact testBit_self
      · rw [testBit_add, h.pre k q0 q1 q2 q3 q4 q5 q6 q7 q8]; rfl
    · obtain ⟨o', ho', e1, e2, e3⟩ := k59
      rw [ho'] at ho
      obtain rfl := Option.some.inj ho
      rw [want_some h.at_ 88 e3 rfl (by rw [hs0]; decide) e88, if_pos rfl]
      have tb := test_of_sub ha 57 (t59 mm hmm)
      have row := h.r7 tb hb0
      refine wp_append_from (.tmp 95) (.tmp 96) 22 e2 W0.heap.size 2 i0 (.int .i64 0) 8 Try.underlying22 hi hz0 hz1 hz2 rfl v7 n (vals .i64 xs) (h.at_.got 57 95 rfl tb) row W0.heap.size B m cB (vals .i64 ys) ((h.at_.eval 96 rfl).trans e96) (lb.below h.keep) nb (vals_one _ _) (by unfold maxLen; omega) (by omega) h.keep.size ?_
      intro A' c' w' hown hgrow
      rw [e1]
      have hkw : Keep W0 w' := Only.keep h.keep ((Only.refl (fun q => v7.ownBlock = some q) _).grown hgrow (fun q _ e => e)) (fun q e => (row.lt q e).1)
      refine ⟨hkw, v5, v7, .slice A' (n + m) c', h.at_.step _ 59 97 _ rfl rfl (by rw [hs0]; decide) rfl (fun k hne _ => mg59 _ _ _ _ _ _ hne), hkw, fun _ h2 => ?_, fun _ h2 => ?_, fun _ => hown, fun _ => ?_, fun k q0 q1 q2 q3 q4 q5 q6 q7 q8 => ?_⟩
      · rw [testBit_one (by decide), tb] at h2; cases h2
      · rw [testBit_self] at h2; cases h2
      · rw [testBit_one (by decide)]; exact tb
      · rw [testBit_add, h.pre k q0 q1 q2 q3 q4 q5 q6 q7 q8]; rfl
    · obtain ⟨o', ho', e1, e2, e3⟩ := k60
      rw [ho'] at ho
      obtain rfl := Option.some.inj ho
      rw [want_some h.at_ 88 e3 rfl (by rw [hs0]; decide) e88, if_pos rfl]
      have tb := test_of_sub ha 59 (t60 mm hmm)
      have row := h.r9 tb
      obtain ⟨A', c', hv9, hl⟩ := Lies.of_row row
      rw [← vals_append] at hl
      refine wp_callv e2 rfl Try.call13 (args := #[.slice A' (n + m) c']) ?_ (cO w A' c' hl) ?_
      · simp only [List.map_toArray, List.map_cons, List.map_nil]
        rw [h.at_.got 59 97 rfl tb]
        show #[v9] = _
        rw [hv9]
      · intro w' hk
        rw [e1]
        exact ⟨h.keep.trans hk, v5, v7, v9, h.quiet hk 60 98 _ (by decide) rfl rfl (by rw [hs0]; decide) rfl⟩
    · obtain ⟨o', ho', e1, e2, e3⟩ := k61
      rw [ho'] at ho
      obtain rfl := Option.some.inj ho
      rw [want_some h.at_ 88 e3 rfl (by rw [hs0]; decide) e88, if_pos rfl]
      obtain ⟨ta, tc⟩ := t61 mm hmm
      refine wp_value (run_eql_ag _ _ _ _ e2 _ _ M (h.at_.got 54 92 rfl (test_of_sub ha 54 ta)) (h.at_.got 60 98 rfl (test_of_sub ha 60 tc))) ?_
      rw [e1]
      exact ⟨h.keep, v5, v7, v9, h.quiet (Keep.refl w) 61 99 _ (by decide) rfl rfl (by rw [hs0]; decide) rfl⟩
    · obtain ⟨o', ho', e1, e2, e3⟩ := k62
      rw [ho'] at ho
      obtain rfl := Option.some.inj ho
      rw [want_none ops e3, if_pos rfl]
      refine wp_value (run_pick _ _ _ _ _ e2 _ _ ((h.at_.eval 88 rfl).trans e88)) ?_
      rw [e1, h.at_.got 61 99 rfl (test_of_sub ha 61 (t62 mm hmm))]
      exact ⟨h.keep, v5, v7, v9, h.quiet (Keep.refl w) 62 100 _ (by decide) rfl rfl (by rw [hs0]; decide) rfl⟩
    · obtain ⟨o', ho', e1, e2, e3⟩ := k63
      rw [ho'] at ho
      obtain rfl := Option.some.inj ho
      rw [want_none ops e3, if_pos rfl]
      refine wp_value (run_assign _ _ _ e2 _ _) ?_
      rw [e1, h.at_.got 62 100 rfl (test_of_sub ha 62 (t63 mm hmm))]
      exact ⟨h.keep, v5, v7, v9, h.quiet (Keep.refl w) 63 8 _ (by decide) rfl rfl (by rw [hs0]; decide) rfl⟩
  · rintro L a w ⟨v5, v7, v9, h⟩ hall
    rw [hsz] at hall
    have hmem : ∀ p ∈ [((54 : Nat), (92 : Nat)), (55, 93), (57, 95), (59, 97), (60, 98), (61, 99), (62, 100), (63, 8)], p.2 < 101 ∧ p.1 < 64 := by
      intro p hp
      simp only [List.mem_cons, List.not_mem_nil, or_false] at hp
      rcases hp with rfl | rfl | rfl | rfl | rfl | rfl | rfl | rfl <;> exact ⟨by decide, by decide⟩
    have hf := h.at_.full (by decide) (fun p hp => by rw [hs0]; exact (hmem p hp).1) (fun p hp => hall p.1 (hmem p hp).2)
    rw [hf]
    exact hend v5 v7 v9 w h.keep
  · refine ⟨undef, undef, undef, At.start a0 _ _ _ rfl, hk, fun h1 => ?_, fun h1 => ?_, fun h1 => ?_, fun h1 => ?_, fun k q0 q1 q2 q3 q4 q5 q6 q7 q8 => ?_⟩
    · exact absurd h1 (by decide)
    · exact absurd h1 (by decide)
    · exact absurd h1 (by decide)
    · exact absurd h1 (by decide)
    · have hall : ∀ k, k < 64 → (k ≠ 54 ∧ k ≠ 55 ∧ k ≠ 57 ∧ k ≠ 59 ∧ k ≠ 60 ∧ k ≠ 61 ∧ k ≠ 62 ∧ k ≠ 63) → (378302368699121663 : Nat).testBit k = true := by decide
      exact hall k q0 ⟨q1, q2, q3, q4, q5, q6, q7, q8⟩
end Go.Proofs.Ytglokhpgjfoneac
