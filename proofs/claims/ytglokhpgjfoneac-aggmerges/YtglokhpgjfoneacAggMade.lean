/- Blocks of Aggs that are made and stored into, as steps; three answers laid down, in whatever order. -/
import Derived.Test.YtglokhpgjfoneacAggOf
import Derived.Test.YtglokhpgjfoneacEvery2
namespace Go.Proofs.Ytglokhpgjfoneac
open Go.RowKit

theorem run_alloc_ag (o : Oper) (ho : o.op = .alloc 24) (ev : Operand → Value) (w : World) :
    (execOp ev o).run Try.prog w = .ok (.value (.pointer (some ⟨w.heap.size, 0, none⟩))) (w.alloc (.cells #[.int .i64 0, .int .i64 0, .int .i64 0, .int .i64 0] 24)) := by
  unfold execOp
  rw [ho]
  go_simp
theorem run_store_ag (o : Oper) (x y : Operand) (ho : o.op = .store 24 x y) (ev : Operand → Value) (w : World) (b : Nat) (A V : Ag) (hx : ev x = .pointer (some ⟨b, 0, none⟩)) (hy : ev y = .agg #[.int .i64 V.c, .int .i64 V.s, .int .i64 V.mn, .int .i64 V.mx]) (h : AgAt w b A) :
    (execOp ev o).run Try.prog w = .ok .skip ((((w.setCell ⟨b, 0, none⟩ (.int .i64 V.c)).setCell ⟨b, 1, none⟩ (.int .i64 V.s)).setCell ⟨b, 2, none⟩ (.int .i64 V.mn)).setCell ⟨b, 3, none⟩ (.int .i64 V.mx)) := by
  obtain ⟨c0, c1, c2, c3⟩ := h.cells
  obtain ⟨f0, f1, f2, f3⟩ := h.free
  unfold execOp
  rw [ho]
  go_simp
theorem wp_skip {P : Program} {Q : Exit → Act → World → Prop} {o : Oper} {a : Act} {w w' : World} {K : Act → World → Prop} (hr : (execOp a.eval o).run P w = .ok .skip w') (h : K (a.put o.dst undef) w') : o.wp P a w K Q := by
  unfold Oper.wp
  rw [hr]
  exact h

def trRes (X Y Z : Ag) (k : Nat) : Ag := if k = 10 then X else if k = 11 then Y else Z
def trVal (X Y Z : Ag) (bk : Nat → Nat) (k : Nat) : Value := if k = 1 then .agg #[.int .i64 X.c, .int .i64 X.s, .int .i64 X.mn, .int .i64 X.mx] else if k = 5 then .agg #[.int .i64 Y.c, .int .i64 Y.s, .int .i64 Y.mn, .int .i64 Y.mx] else if k = 9 then .agg #[.int .i64 Z.c, .int .i64 Z.s, .int .i64 Z.mn, .int .i64 Z.mx] else .pointer (some ⟨bk k, 0, none⟩)
theorem tr1 (X Y Z : Ag) (bk : Nat → Nat) : trVal X Y Z bk 1 = .agg #[.int .i64 X.c, .int .i64 X.s, .int .i64 X.mn, .int .i64 X.mx] := rfl
theorem tr5 (X Y Z : Ag) (bk : Nat → Nat) : trVal X Y Z bk 5 = .agg #[.int .i64 Y.c, .int .i64 Y.s, .int .i64 Y.mn, .int .i64 Y.mx] := rfl
theorem tr9 (X Y Z : Ag) (bk : Nat → Nat) : trVal X Y Z bk 9 = .agg #[.int .i64 Z.c, .int .i64 Z.s, .int .i64 Z.mn, .int .i64 Z.mx] := rfl
/-- What holds while three answers are laid down. -/
structure Thr (W0 : World) (X Y Z : Ag) (a0 : Act) (D : List (Nat × Nat)) (L : Nat) (a : Act) (w : World) (bk : Nat → Nat) : Prop where
  at_ : At a0 D (trVal X Y Z bk) L a
  keep : Keep W0 w
  blk : ∀ k, k = 10 ∨ k = 11 ∨ k = 12 → L.testBit k = true → W0.heap.size ≤ bk k ∧ AgAt w (bk k) (if L.testBit (k + 3) = true then trRes X Y Z k else nil0)
  dis : ∀ i k, (i = 10 ∨ i = 11 ∨ i = 12) → (k = 10 ∨ k = 11 ∨ k = 12) → i ≠ k → L.testBit i = true → L.testBit k = true → bk i ≠ bk k
  pre : L.testBit 0 = true ∧ L.testBit 2 = true ∧ L.testBit 3 = true ∧ L.testBit 4 = true ∧ L.testBit 6 = true ∧ L.testBit 7 = true ∧ L.testBit 8 = true
theorem Thr.call {W0 : World} {X Y Z : Ag} {a0 : Act} {D : List (Nat × Nat)} {L : Nat} {a : Act} {w w' : World} {bk : Nat → Nat} (h : Thr W0 X Y Z a0 D L a w bk) (hk : Keep w w') (i d : Nat) (v : Value) (hi : i = 1 ∨ i = 5 ∨ i = 9) (hv : trVal X Y Z bk i = v)
    (hj : D.contains (i, d) = true) (hD : (D.all fun p => (p.2 == d) == (p.1 == i)) = true) (hd : d < a0.tmps.size) : Thr W0 X Y Z a0 D (L ||| 1 <<< i) (a.put (some d) v) w' bk := by
  obtain ⟨h0, h2, h3, h4, h6, h7, h8⟩ := h.pre
  refine ⟨h.at_.step _ i d v hj hD hd hv (fun _ _ _ => rfl), h.keep.trans hk, fun k hk3 hb => ?_, fun p k hp hk3 hne hb hb2 => ?_, ?_⟩
  · rw [testBit_one (by omega)] at hb
    rw [testBit_one (by omega)]
    obtain ⟨h1, h2⟩ := h.blk k hk3 hb
    exact ⟨h1, h2.keep hk⟩
  · rw [testBit_one (by omega)] at hb hb2
    exact h.dis p k hp hk3 hne hb hb2
  · refine ⟨?_, ?_, ?_, ?_, ?_, ?_, ?_⟩ <;> (rw [testBit_one (by omega)]; assumption)
theorem trVal_ptr (X Y Z : Ag) (bk : Nat → Nat) (k : Nat) (h : k = 10 ∨ k = 11 ∨ k = 12) : trVal X Y Z bk k = .pointer (some ⟨bk k, 0, none⟩) := by
  unfold trVal
  rw [if_neg (by omega), if_neg (by omega), if_neg (by omega)]
theorem Thr.alloc {W0 : World} {X Y Z : Ag} {a0 : Act} {D : List (Nat × Nat)} {L : Nat} {a : Act} {w : World} {bk : Nat → Nat} (h : Thr W0 X Y Z a0 D L a w bk) (i d : Nat) (hi : i = 10 ∨ i = 11 ∨ i = 12) (hb0 : L.testBit i = false) (hb3 : L.testBit (i + 3) = false)
    (hj : D.contains (i, d) = true) (hD : (D.all fun p => (p.2 == d) == (p.1 == i)) = true) (hd : d < a0.tmps.size) :
    Thr W0 X Y Z a0 D (L ||| 1 <<< i) (a.put (some d) (.pointer (some ⟨w.heap.size, 0, none⟩))) (w.alloc (.cells #[.int .i64 nil0.c, .int .i64 nil0.s, .int .i64 nil0.mn, .int .i64 nil0.mx] 24)) (fun k => if k = i then w.heap.size else bk k) := by
  have hkw := (Keep.refl w).alloc (.cells #[.int .i64 nil0.c, .int .i64 nil0.s, .int .i64 nil0.mn, .int .i64 nil0.mx] 24)
  obtain ⟨h0, h2, h3, h4, h6, h7, h8⟩ := h.pre
  refine ⟨h.at_.step _ i d _ hj hD hd ?_ (fun k hne _ => ?_), h.keep.alloc _, fun k hk3 hb => ?_, fun p k hp hk3 hne hb hb2 => ?_, ?_⟩
  · rw [trVal_ptr _ _ _ _ _ hi, if_pos rfl]
  · unfold trVal
    simp only [if_neg hne]
  · by_cases e : k = i
    · subst e
      rw [testBit_one (by omega), hb3]
      simp only [if_pos]
      exact ⟨h.keep.size, AgAt.new w nil0⟩
    · rw [testBit_one (Ne.symm e)] at hb
      rw [testBit_one (by omega)]
      simp only [if_neg e]
      obtain ⟨h1, h2⟩ := h.blk k hk3 hb
      exact ⟨h1, h2.keep hkw⟩
  · by_cases e : p = i
    · subst e
      rw [testBit_one hne] at hb2
      have := (h.blk k hk3 hb2).2.lt
      simp only [if_pos, if_neg (Ne.symm hne)]
      omega
    · rw [testBit_one (Ne.symm e)] at hb
      by_cases e2 : k = i
      · subst e2
        have := (h.blk p hp hb).2.lt
        simp only [if_pos, if_neg e]
        omega
      · rw [testBit_one (Ne.symm e2)] at hb2
        simp only [if_neg e, if_neg e2]
        exact h.dis p k hp hk3 hne hb hb2
  · refine ⟨?_, ?_, ?_, ?_, ?_, ?_, ?_⟩ <;> (rw [testBit_one (by omega)]; assumption)
theorem Thr.store {W0 : World} {X Y Z : Ag} {a0 : Act} {D : List (Nat × Nat)} {L : Nat} {a : Act} {w : World} {bk : Nat → Nat} (h : Thr W0 X Y Z a0 D L a w bk) (i : Nat) (hi : i = 10 ∨ i = 11 ∨ i = 12) (hb0 : L.testBit i = true) (hj : (D.all fun p => p.1 != i + 3) = true) (V : Ag) (hV : trRes X Y Z i = V) :
    Thr W0 X Y Z a0 D (L ||| 1 <<< (i + 3)) a ((((w.setCell ⟨bk i, 0, none⟩ (.int .i64 V.c)).setCell ⟨bk i, 1, none⟩ (.int .i64 V.s)).setCell ⟨bk i, 2, none⟩ (.int .i64 V.mn)).setCell ⟨bk i, 3, none⟩ (.int .i64 V.mx)) bk := by
  obtain ⟨g1, g2⟩ := h.blk i hi hb0
  obtain ⟨h0, h2, h3, h4, h6, h7, h8⟩ := h.pre
  have ho : Only (fun k => k = bk i) w ((((w.setCell ⟨bk i, 0, none⟩ (.int .i64 V.c)).setCell ⟨bk i, 1, none⟩ (.int .i64 V.s)).setCell ⟨bk i, 2, none⟩ (.int .i64 V.mn)).setCell ⟨bk i, 3, none⟩ (.int .i64 V.mx)) := set_only (Only.refl _ w) rfl
  refine ⟨h.at_.more _ hj, Only.keep h.keep ho (fun k hk => by omega), fun k hk3 hb => ?_, fun p k hp hk3 hne hb hb2 => ?_, ?_⟩
  · rw [testBit_one (by omega)] at hb
    by_cases e : k = i
    · subst e
      rw [testBit_self, if_pos rfl, hV]
      exact ⟨g1, set_at g2 V.c V.s V.mn V.mx⟩
    · rw [testBit_one (by omega)]
      obtain ⟨h1, h2⟩ := h.blk k hk3 hb
      exact ⟨h1, h2.only ho (h.dis k i hk3 hi e hb hb0)⟩
  · rw [testBit_one (by omega)] at hb hb2
    exact h.dis p k hp hk3 hne hb hb2
  · refine ⟨?_, ?_, ?_, ?_, ?_, ?_, ?_⟩ <;> (rw [testBit_one (by omega)]; assumption)

theorem h3step {L i : Nat} (h3 : ∀ k, k = 10 ∨ k = 11 ∨ k = 12 → L.testBit (k + 3) = true → L.testBit k = true) (hi : i < 13) : ∀ k, k = 10 ∨ k = 11 ∨ k = 12 → (L ||| 1 <<< i).testBit (k + 3) = true → (L ||| 1 <<< i).testBit k = true := fun k hk hb => by
  rw [testBit_one (by omega)] at hb
  rw [testBit_add, h3 k hk hb]
  rfl
theorem h3store {L i : Nat} (h3 : ∀ k, k = 10 ∨ k = 11 ∨ k = 12 → L.testBit (k + 3) = true → L.testBit k = true) (hb0 : L.testBit i = true) : ∀ k, k = 10 ∨ k = 11 ∨ k = 12 → (L ||| 1 <<< (i + 3)).testBit (k + 3) = true → (L ||| 1 <<< (i + 3)).testBit k = true := fun k hk hb => by
  rw [testBit_add] at hb ⊢
  by_cases e : k = i
  · subst e; rw [hb0]; rfl
  · have : decide (i + 3 = k + 3) = false := by simp; omega
    rw [this, Bool.or_false] at hb
    rw [h3 k hk hb]
    rfl

theorem want_none (ops : Array Oper) {o : Oper} {t : Array Value} (h : o.guard = none) : wantR (gslot ops o) t = true := by unfold gslot; rw [h]; rfl
/-- Three answers, each into a block of its own, in whatever order. -/
theorem three_rest {Q : Exit → Act → World → Prop} {W0 : World} {X Y Z : Ag} {a0 : Act} {ops : Array Oper} {v1 v2 v3 : Value} (ms : List Msk) (hms : ms = ops.toList.map (mskOf ops)) (hlow : lowFrom 0 ms = true) (hsz : ops.size = 16) (hs0 : a0.tmps.size = 142)
    (k1 : ∃ o : Oper, ops[1]? = some o ∧ o.dst = some 56 ∧ o.op = .call { callee := .value (.func 13), args := #[.tmp 55], argTypes := #[22] } ∧ o.guard = none)
    (k5 : ∃ o : Oper, ops[5]? = some o ∧ o.dst = some 60 ∧ o.op = .call { callee := .value (.func 13), args := #[.tmp 59], argTypes := #[22] } ∧ o.guard = none)
    (k9 : ∃ o : Oper, ops[9]? = some o ∧ o.dst = some 64 ∧ o.op = .call { callee := .value (.func 13), args := #[.tmp 63], argTypes := #[22] } ∧ o.guard = none)
    (k10 : ∃ o : Oper, ops[10]? = some o ∧ o.dst = some 10 ∧ o.op = .alloc 24 ∧ o.guard = none)
    (k11 : ∃ o : Oper, ops[11]? = some o ∧ o.dst = some 11 ∧ o.op = .alloc 24 ∧ o.guard = none)
    (k12 : ∃ o : Oper, ops[12]? = some o ∧ o.dst = some 12 ∧ o.op = .alloc 24 ∧ o.guard = none)
    (k13 : ∃ o : Oper, ops[13]? = some o ∧ o.dst = none ∧ o.op = .store 24 (.tmp 10) (.tmp 56) ∧ o.guard = none)
    (k14 : ∃ o : Oper, ops[14]? = some o ∧ o.dst = none ∧ o.op = .store 24 (.tmp 11) (.tmp 60) ∧ o.guard = none)
    (k15 : ∃ o : Oper, ops[15]? = some o ∧ o.dst = none ∧ o.op = .store 24 (.tmp 12) (.tmp 64) ∧ o.guard = none)
    (t13 : ∀ m : Msk, ms[13]? = some m → m.aft.testBit 10 = true ∧ m.aft.testBit 1 = true)
    (t14 : ∀ m : Msk, ms[14]? = some m → m.aft.testBit 11 = true ∧ m.aft.testBit 5 = true)
    (t15 : ∀ m : Msk, ms[15]? = some m → m.aft.testBit 12 = true ∧ m.aft.testBit 9 = true)
    (ev1 : a0.eval (.tmp 55) = v1) (ev5 : a0.eval (.tmp 59) = v2) (ev9 : a0.eval (.tmp 63) = v3)
    (c1 : ∀ w, Keep W0 w → Calls Try.prog 13 #[v1] w fun e w' => e = .returned (.agg #[.int .i64 X.c, .int .i64 X.s, .int .i64 X.mn, .int .i64 X.mx]) ∧ Keep w w')
    (c5 : ∀ w, Keep W0 w → Calls Try.prog 13 #[v2] w fun e w' => e = .returned (.agg #[.int .i64 Y.c, .int .i64 Y.s, .int .i64 Y.mn, .int .i64 Y.mx]) ∧ Keep w w')
    (c9 : ∀ w, Keep W0 w → Calls Try.prog 13 #[v3] w fun e w' => e = .returned (.agg #[.int .i64 Z.c, .int .i64 Z.s, .int .i64 Z.mn, .int .i64 Z.mx]) ∧ Keep w w')
    (hend : ∀ bk w, Keep W0 w → W0.heap.size ≤ bk 10 → W0.heap.size ≤ bk 11 → W0.heap.size ≤ bk 12 → AgAt w (bk 10) X → AgAt w (bk 11) Y → AgAt w (bk 12) Z → Q .normal (putAll a0 [(1, 56), (5, 60), (9, 64), (10, 10), (11, 11), (12, 12)] (trVal X Y Z bk)) w)
    (listed : Array Bool) (w : World) (hL : Listed ops.size listed 477) (hn : ∀ k, (477 : Nat).testBit k = true → k < ops.size) (hk : Keep W0 w) (fuel : Nat) (hfu : missing 477 16 = fuel) :
    wpAnyH Try.prog .any ops Q (fun w' => Keep W0 w') fuel listed a0 w := by
  refine every_rest (S := fun w' => Keep W0 w') ops ms hms hlow (fun L a w => (∀ k, k = 10 ∨ k = 11 ∨ k = 12 → L.testBit (k + 3) = true → L.testBit k = true) ∧ ∃ bk, Thr W0 X Y Z a0 [(1, 56), (5, 60), (9, 64), (10, 10), (11, 11), (12, 12)] L a w bk) ?_ ?_ fuel listed 477 a0 w hL hn (by rw [hsz]; exact hfu) ?_
  · rintro i o m L a w ho hm ⟨h3, bk, h⟩ hb0 ha
    have hi : i < 16 := by rw [← hsz]; exact (Array.getElem?_eq_some_iff.1 ho).1
    obtain ⟨q0, q2, q3, q4, q6, q7, q8⟩ := h.pre
    have hcs : i = 1 ∨ i = 5 ∨ i = 9 ∨ i = 10 ∨ i = 11 ∨ i = 12 ∨ i = 13 ∨ i = 14 ∨ i = 15 := by
      apply Classical.byContradiction
      intro hno
      rcases (show i = 0 ∨ i = 2 ∨ i = 3 ∨ i = 4 ∨ i = 6 ∨ i = 7 ∨ i = 8 by omega) with rfl | rfl | rfl | rfl | rfl | rfl | rfl
      · rw [q0] at hb0; cases hb0
      · rw [q2] at hb0; cases hb0
      · rw [q3] at hb0; cases hb0
      · rw [q4] at hb0; cases hb0
      · rw [q6] at hb0; cases hb0
      · rw [q7] at hb0; cases hb0
      · rw [q8] at hb0; cases hb0
    rcases hcs with rfl | rfl | rfl | rfl | rfl | rfl | rfl | rfl | rfl
    · obtain ⟨o', ho', e1, e2, e3⟩ := k1
      rw [ho'] at ho
      obtain rfl := Option.some.inj ho
      rw [want_none ops e3, if_pos rfl]
      refine wp_callv e2 rfl Try.call13 (args := #[v1]) ?_ (c1 w h.keep) ?_
      · simp only [List.map_toArray, List.map_cons, List.map_nil]
        rw [h.at_.eval 55 rfl, ev1]
      · intro w' hk
        rw [e1]
        exact ⟨h.keep.trans hk, h3step h3 (by decide), bk, h.call hk 1 56 _ (by decide) rfl rfl rfl (by rw [hs0]; decide)⟩
    · obtain ⟨o', ho', e1, e2, e3⟩ := k5
      rw [ho'] at ho
      obtain rfl := Option.some.inj ho
      rw [want_none ops e3, if_pos rfl]
      refine wp_callv e2 rfl Try.call13 (args := #[v2]) ?_ (c5 w h.keep) ?_
      · simp only [List.map_toArray, List.map_cons, List.map_nil]
        rw [h.at_.eval 59 rfl, ev5]
      · intro w' hk
        rw [e1]
        exact ⟨h.keep.trans hk, h3step h3 (by decide), bk, h.call hk 5 60 _ (by decide) rfl rfl rfl (by rw [hs0]; decide)⟩
    · obtain ⟨o', ho', e1, e2, e3⟩ := k9
      rw [ho'] at ho
      obtain rfl := Option.some.inj ho
      rw [want_none ops e3, if_pos rfl]
      refine wp_callv e2 rfl Try.call13 (args := #[v3]) ?_ (c9 w h.keep) ?_
      · simp only [List.map_toArray, List.map_cons, List.map_nil]
        rw [h.at_.eval 63 rfl, ev9]
      · intro w' hk
        rw [e1]
        exact ⟨h.keep.trans hk, h3step h3 (by decide), bk, h.call hk 9 64 _ (by decide) rfl rfl rfl (by rw [hs0]; decide)⟩
    · obtain ⟨o', ho', e1, e2, e3⟩ := k10
      rw [ho'] at ho
      obtain rfl := Option.some.inj ho
      rw [want_none ops e3, if_pos rfl]
      refine wp_value (run_alloc_ag _ e2 _ _) ?_
      rw [e1]
      have hb3 : L.testBit (10 + 3) = false := by
        cases hb : L.testBit (10 + 3)
        · rfl
        · have := h3 10 (by decide) hb
          rw [this] at hb0
          cases hb0
      exact ⟨h.keep.alloc _, h3step h3 (by decide), _, h.alloc 10 10 (by decide) hb0 hb3 rfl rfl (by rw [hs0]; decide)⟩
    · obtain ⟨o', ho', e1, e2, e3⟩ := k11
      rw [ho'] at ho
      obtain rfl := Option.some.inj ho
      rw [want_none ops e3, if_pos rfl]
      refine wp_value (run_alloc_ag _ e2 _ _) ?_
      rw [e1]
      have hb3 : L.testBit (11 + 3) = false := by
        cases hb : L.testBit (11 + 3)
        · rfl
        · have := h3 11 (by decide) hb
          rw [this] at hb0
          cases hb0
      exact ⟨h.keep.alloc _, h3step h3 (by decide), _, h.alloc 11 11 (by decide) hb0 hb3 rfl rfl (by rw [hs0]; decide)⟩
    · obtain ⟨o', ho', e1, e2, e3⟩ := k12
      rw [ho'] at ho
      obtain rfl := Option.some.inj ho
      rw [want_none ops e3, if_pos rfl]
      refine wp_value (run_alloc_ag _ e2 _ _) ?_
      rw [e1]
      have hb3 : L.testBit (12 + 3) = false := by
        cases hb : L.testBit (12 + 3)
        · rfl
        · have := h3 12 (by decide) hb
          rw [this] at hb0
          cases hb0
      exact ⟨h.keep.alloc _, h3step h3 (by decide), _, h.alloc 12 12 (by decide) hb0 hb3 rfl rfl (by rw [hs0]; decide)⟩
    · obtain ⟨o', ho', e1, e2, e3⟩ := k13
      rw [ho'] at ho
      obtain rfl := Option.some.inj ho
      rw [want_none ops e3, if_pos rfl]
      obtain ⟨hba, hbc⟩ := t13 m hm
      have tb := test_of_sub ha 10 hba
      have tc := test_of_sub ha 1 hbc
      obtain ⟨g1, g2⟩ := h.blk 10 (by decide) tb
      refine wp_skip (run_store_ag _ _ _ e2 _ _ (bk 10) _ X ?_ ?_ g2) ?_
      · exact (h.at_.got 10 10 rfl tb).trans (trVal_ptr _ _ _ _ _ (by decide))
      · exact h.at_.got 1 56 rfl tc
      · rw [e1]
        have := h.store 10 (by decide) tb rfl X rfl
        exact ⟨this.keep, h3store h3 tb, bk, this⟩
    · obtain ⟨o', ho', e1, e2, e3⟩ := k14
      rw [ho'] at ho
      obtain rfl := Option.some.inj ho
      rw [want_none ops e3, if_pos rfl]
      obtain ⟨hba, hbc⟩ := t14 m hm
      have tb := test_of_sub ha 11 hba
      have tc := test_of_sub ha 5 hbc
      obtain ⟨g1, g2⟩ := h.blk 11 (by decide) tb
      refine wp_skip (run_store_ag _ _ _ e2 _ _ (bk 11) _ Y ?_ ?_ g2) ?_
      · exact (h.at_.got 11 11 rfl tb).trans (trVal_ptr _ _ _ _ _ (by decide))
      · exact h.at_.got 5 60 rfl tc
      · rw [e1]
        have := h.store 11 (by decide) tb rfl Y rfl
        exact ⟨this.keep, h3store h3 tb, bk, this⟩
    · obtain ⟨o', ho', e1, e2, e3⟩ := k15
      rw [ho'] at ho
      obtain rfl := Option.some.inj ho
      rw [want_none ops e3, if_pos rfl]
      obtain ⟨hba, hbc⟩ := t15 m hm
      have tb := test_of_sub ha 12 hba
      have tc := test_of_sub ha 9 hbc
      obtain ⟨g1, g2⟩ := h.blk 12 (by decide) tb
      refine wp_skip (run_store_ag _ _ _ e2 _ _ (bk 12) _ Z ?_ ?_ g2) ?_
      · exact (h.at_.got 12 12 rfl tb).trans (trVal_ptr _ _ _ _ _ (by decide))
      · exact h.at_.got 9 64 rfl tc
      · rw [e1]
        have := h.store 12 (by decide) tb rfl Z rfl
        exact ⟨this.keep, h3store h3 tb, bk, this⟩
  · rintro L a w ⟨-, bk, h⟩ hall
    rw [hsz] at hall
    have hmem : ∀ p ∈ [((1 : Nat), (56 : Nat)), (5, 60), (9, 64), (10, 10), (11, 11), (12, 12)], p.2 < 142 ∧ p.1 < 16 := by
      intro p hp
      simp only [List.mem_cons, List.not_mem_nil, or_false] at hp
      rcases hp with rfl | rfl | rfl | rfl | rfl | rfl <;> exact ⟨by decide, by decide⟩
    have hf := h.at_.full (by decide) (fun p hp => by rw [hs0]; exact (hmem p hp).1) (fun p hp => hall p.1 (hmem p hp).2)
    obtain ⟨x1, y1⟩ := h.blk 10 (by decide) (hall 10 (by decide))
    obtain ⟨x2, y2⟩ := h.blk 11 (by decide) (hall 11 (by decide))
    obtain ⟨x3, y3⟩ := h.blk 12 (by decide) (hall 12 (by decide))
    rw [if_pos (hall 13 (by decide))] at y1
    rw [if_pos (hall 14 (by decide))] at y2
    rw [if_pos (hall 15 (by decide))] at y3
    rw [hf]
    exact hend bk w h.keep x1 x2 x3 y1 y2 y3
  · refine ⟨fun k hk hb => ?_, fun _ => 0, At.start a0 _ _ _ rfl, hk, fun k hk hb => ?_, fun i k hi hk _ hb _ => ?_, by decide⟩
    · rcases hk with rfl | rfl | rfl <;> exact absurd hb (by decide)
    · rcases hk with rfl | rfl | rfl <;> exact absurd hb (by decide)
    · rcases hi with rfl | rfl | rfl <;> exact absurd hb (by decide)
end Go.Proofs.Ytglokhpgjfoneac
