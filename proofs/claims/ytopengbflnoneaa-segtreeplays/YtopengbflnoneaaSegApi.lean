/- segtree's calls, of a tree of the caller's own. -/
import Derived.Test.YtopengbflnoneaaSegWay2
import Derived.BigQuiet
namespace Go.Proofs.Ytopengbflnoneaa
open Go.RowKit

section
variable {P : Program} {Q : Exit → Act → World → Prop} {S R : World → Prop}
/-- A call that answers whatever it does. -/
theorem seq_callE {o : Oper} {gs : Option (Option Tmp × Bool)} {rest : List (Option RowR)} {a : Act} {w : World} {x : Operand} {xs : Array Operand} {ts : Array TypeId} {f : FuncId} {args : Array Value} (hw : wantR gs a.tmps = true)
    (ho : o.op = .call { callee := .value x, args := xs, argTypes := ts }) (hx : a.eval x = .func (.func f) #[] #[]) (hf : ∀ (args : Array Value) (w : World), (callFunc f args).run P w = .ok (.enter f args) w) (hargs : xs.map a.eval = args)
    (hc : Calls P f args w fun e w' => (∃ v, e = .returned v) ∧ S w' ∧ R w') (h : ∀ v w', S w' → R w' → SeqR P Q S rest (a.put o.dst v) w') :
    SeqR P Q S (some ⟨o, gs, true⟩ :: rest) a w := by
  refine .inl ⟨rfl, fun K hK => ?_⟩
  simp only [hw, if_true]
  unfold Oper.wp
  rw [run_callv ho hx hf hargs]
  refine Calls.mono hc fun e w' ⟨⟨v, he⟩, hS, hR⟩ => ?_
  subst he
  exact hK.out _ _ hS (h v w' hS hR)
end
theorem agF0 : ∃ f0 f1 f2 f3 : Field, Try.prog.underlying 38 = some (.struct #[f0, f1, f2, f3]) ∧ f0.offset = 0 ∧ f0.type = 3 := ⟨_, _, _, _, Try.underlying38, by kernel_rfl, by kernel_rfl⟩
/-- The count, of what is told. -/
theorem run_count (a : Ag) (w : World) : (Instr.field 38 (.agg #[.int .i64 a.c, .int .i64 a.s, .int .i64 a.mn, .int .i64 a.mx]) 0).run Try.prog w = .ok (.int .i64 a.c) w := by
  obtain ⟨f0, f1, f2, f3, e, o2, t2⟩ := agF0
  simp [Instr.field, asAgg, run_underlying e, o2, t2, part, go_sem]
/-- The tree in block b has n nodes, of shape t, and these keys with values. -/
def Tre (w0 : World) (b lim n : Nat) (t : Sh) (kvs : List (Int × Int)) (Pr : Nat → Prop) (w : World) : Prop :=
  ∃ xs, My w0 b lim xs Pr w ∧ Tr xs 32 0 t kvs ∧ Num xs t 1 ∧ xs.length = n
section
variable {w0 w w' : World} {b lim n : Nat} {t : Sh} {kvs : List (Int × Int)} {Pr Pr' : Nat → Prop}
theorem Tre.keep (h : Tre w0 b lim n t kvs Pr w) (hk : Keep w w') : Tre w0 b lim n t kvs (fun k => Pr k ∨ (w.heap.size ≤ k ∧ k < w'.heap.size)) w' := by
  obtain ⟨xs, h1, h2⟩ := h
  exact ⟨xs, h1.keep hk, h2⟩
theorem Tre.kept (h : Tre w0 b lim n t kvs Pr w) (hk : Keep w w') : Tre w0 b lim n t kvs Pr w' := by
  obtain ⟨xs, h1, h2⟩ := h
  exact ⟨xs, h1.kept hk, h2⟩
theorem Tre.mono (h : Tre w0 b lim n t kvs Pr w) (hp : ∀ k, Pr' k → Pr k) : Tre w0 b lim n t kvs Pr' w := by
  obtain ⟨xs, h1, h2⟩ := h
  exact ⟨xs, h1.mono hp, h2⟩
theorem Tre.only {S : Nat → Prop} (h : Tre w0 b lim n t kvs Pr w) (ho : Only S w w') (hS : ∀ k, S k → Pr k ∧ w0.heap.size ≤ k) : Tre w0 b lim n t kvs Pr w' := by
  obtain ⟨xs, h1, h2⟩ := h
  exact ⟨xs, h1.only ho hS, h2⟩
theorem Tre.keepW (h : Tre w0 b lim n t kvs Pr w) : Keep w0 w := by
  obtain ⟨xs, h1, h2⟩ := h
  exact h1.keepW
theorem Tre.fits (h : Tre w0 b lim n t kvs Pr w) : n ≤ lim := by
  obtain ⟨xs, h1, _, _, rfl⟩ := h
  exact h1.fits
theorem Tre.rises (h : Tre w0 b lim n t kvs Pr w) : Rises kvs := by
  obtain ⟨xs, h1, h2, _⟩ := h
  exact h2.val.rises
theorem Tre.range (h : Tre w0 b lim n t kvs Pr w) : ∀ p ∈ kvs, 0 ≤ p.1 ∧ p.1 < 4294967296 ∧ inI p.2 := by
  obtain ⟨xs, h1, h2, _⟩ := h
  intro p hp
  obtain ⟨q1, q2, q3⟩ := h2.val.range p hp
  exact ⟨q1, by simpa using q2, q3⟩
end
theorem My.of_ar {w0 w : World} {b lim : Nat} {xs : List Nd} {A : Option Addr} {c : Nat} (h : Ar w b lim A c xs) (hk : Keep w0 w) (hb : w0.heap.size ≤ b) : My w0 b lim xs (fun _ => False) w := ⟨A, c, h, hk, hb, fun _ h => h.elim⟩
theorem tre_new (lim : Nat) (w : World) (h1 : 1 ≤ lim) (h2 : lim ≤ 4194304) :
    Calls Try.prog 10 #[.int .i64 lim] w fun e w' => e = .returned (.tuple #[.pointer (some ⟨w.heap.size + 1, 0, none⟩), .int .i64 0]) ∧ Tre w (w.heap.size + 1) lim 0 .nil [] (fun _ => False) w' := by
  have hn := new_yes lim w h1 h2
  go_enter Try.func10, Try.ntmps10
  go_wp2_with fail
  refine hn.mono ?_
  rintro e w1 ⟨rfl, hk, hs, hA⟩
  have q0 := hA.lim0
  have q1 := hA.row
  simp only [List.length_nil] at q1
  have HS := Lib.hid hs
  have HK := Lib.hid hk
  clear hA hn hs hk
  go_wp2_with fail
  rw [HS.out]
  have hb := World.alloc_heap_new w1 (.cells #[.int .i64 lim, .slice none 0 0] 76)
  rw [HS.out] at hb
  exact bodyPost_ret (v := .tuple #[.pointer (some ⟨w.heap.size + 1, 0, none⟩), .int .i64 0]) (by simp [results, Try.results10, go_sem]) rfl ⟨rfl, [], My.of_ar (Ar.of_block hb h1 h2) (HK.out.alloc _) (by omega), Tr.nil _ _ _, by simp [Num], rfl⟩
theorem tre_new_no (lim : Int) (w : World) (h : lim < 1 ∨ 4194304 < lim) :
    Calls Try.prog 10 #[.int .i64 lim] w fun e w' => e = .returned (.tuple #[.pointer none, .int .i64 1]) ∧ Keep w w' := by
  have hn := new_no lim w h
  go_enter Try.func10, Try.ntmps10
  go_wp2_with fail
  refine hn.mono ?_
  rintro e w1 ⟨rfl, rfl⟩
  clear hn h
  go_wp2
  exact bodyPost_ret (v := .tuple #[.pointer none, .int .i64 1]) (by simp [results, Try.results10, go_sem]) rfl ⟨rfl, Keep.refl w⟩
section
variable {w0 w : World} {b lim n : Nat} {t : Sh} {kvs : List (Int × Int)} {Pr : Nat → Prop}
theorem tre_nodes (h : Tre w0 b lim n t kvs Pr w) : Calls Try.prog 20 #[.pointer (some ⟨b, 0, none⟩)] w fun e w' => e = .returned (.int .i64 n) ∧ w = w' := by
  obtain ⟨xs, hM, hT, hN, rfl⟩ := h
  have hl := my_len hM
  clear hM hT hN
  go_enter Try.func20, Try.ntmps20
  go_wp2_with fail
  refine hl.mono ?_
  rintro e w1 ⟨rfl, rfl⟩
  clear hl
  go_wp2
  go_ret
  exact ⟨rfl, rfl⟩
theorem root_fold (h : Tre w0 b lim n t kvs Pr w) (hl : kvs.length ≤ 1000000) (p q : Int) : ∀ W, Keep w W → Calls Try.prog 35 #[.pointer (some ⟨b, 0, none⟩), .int .i32 1, .agg #[.int .u32 0, .int .u32 4294967295], .agg #[.int .u32 p, .int .u32 q]] W fun e w' => e = .returned (.agg #[.int .i64 (ofL (vs (kvs.filter (inS p q)))).c, .int .i64 (ofL (vs (kvs.filter (inS p q)))).s, .int .i64 (ofL (vs (kvs.filter (inS p q)))).mn, .int .i64 (ofL (vs (kvs.filter (inS p q)))).mx]) ∧ Keep W w' := by
  intro W hW
  obtain ⟨xs, ⟨A, c, hA, _⟩, hT, hN, _⟩ := h
  exact fold_any p q 32 0 1 t kvs W ⟨by decide, by decide, hT.shp, hT.fit, hN, by decide, hT.val, hl⟩ (hA.keep hW)
set_option maxRecDepth 100000 in
set_option maxHeartbeats 2000000 in
theorem tre_fold (h : Tre w0 b lim n t kvs Pr w) (hl : kvs.length ≤ 1000000) (p q : Int) :
    Calls Try.prog 18 #[.pointer (some ⟨b, 0, none⟩), .agg #[.int .u32 p, .int .u32 q]] w fun e w' => e = .returned (.agg #[.int .i64 (ofL (vs (kvs.filter (inS p q)))).c, .int .i64 (ofL (vs (kvs.filter (inS p q)))).s, .int .i64 (ofL (vs (kvs.filter (inS p q)))).mn, .int .i64 (ofL (vs (kvs.filter (inS p q)))).mx]) ∧ Keep w w' := by
  have HR := Lib.hid (root_fold h hl p q)
  generalize ofL (vs (kvs.filter (inS p q))) = a at *
  clear h hl
  have HK := Lib.hid (((Keep.refl w).alloc (.cells #[.int .u32 p, .int .u32 q] 36)).alloc (.cells #[.int .i64 0, .int .i64 0, .int .i64 0, .int .i64 0] 38))
  obtain ⟨hb1, hb3⟩ := boxesL w p q
  have HB1 := Lib.hid hb1
  have HB3 := Lib.hid hb3
  clear hb1 hb3
  go_enter Try.func18, Try.ntmps18
  go_wp2_with fail
  generalize (w.alloc (.cells #[.int .u32 p, .int .u32 q] 36)).alloc (.cells #[.int .i64 0, .int .i64 0, .int .i64 0, .int .i64 0] 38) = V at *
  have HSS := Lib.hid (show ∀ w', Only (fun k => k = w.heap.size + 1) V w' → Only (fun k => k = w.heap.size + 1) V w' ∧ (w'.cell? ⟨w.heap.size, 0, none⟩ = some (.int .u32 p) ∧ w'.cell? ⟨w.heap.size, 1, none⟩ = some (.int .u32 q)) from fun w' ho => ⟨ho, (HB1.out.only ho (by omega)).cells⟩)
  have hKc := (Keep.refl V).drew
  refine seq_region (S := fun w' => Only (fun k => k = w.heap.size + 1) V w' ∧ (w'.cell? ⟨w.heap.size, 0, none⟩ = some (.int .u32 p) ∧ w'.cell? ⟨w.heap.size, 1, none⟩ = some (.int .u32 q))) [⟨0, 1, 32⟩, ⟨0, 0, 64⟩, ⟨0, 8, 128⟩, ⟨7, 224, 256⟩, ⟨15, 272, 0⟩] [(0, false), (2, false), (1, true), (3, true), (4, true)] rfl (by kernel_rfl) (by kernel_rfl) (fun _ _ d _ _ h => by cases d <;> exact h) (HSS.out _ (Only.of_keep _ hKc)) ?_
  simp only [rowsOf, rowAt, gslot, List.map_cons, List.map_nil, List.getElem?_toArray, List.getElem?_cons_zero, List.getElem?_cons_succ]
  repeat (first
    | (refine seq_take (v := ?_) (a' := ?_) (by rfl) ?_ ?_ ?_
       rotate_left 2
       · (intro w hSw; obtain ⟨-, hSw⟩ := hSw; go_split_ands; go_simp; with_reducible rfl)
       · (simp only [Act.put, List.setIfInBounds_toArray, List.set_cons_zero, List.set_cons_succ]; with_reducible rfl)))
  refine seq_callR (R := fun w' => Keep V w') (f := 33) (args := ?_) (v := ?_) (a' := ?_) (by rfl) (by rfl) (by rfl) Try.call33 ?_ ?_ ?_ ?_
  rotate_left 3
  · (go_simp; with_reducible rfl)
  · ((with_reducible refine (every_is _).mono ?_)
     rintro e w' ⟨rfl, hk⟩
     refine ⟨?_, HSS.out _ (Only.of_keep _ (hKc.trans hk)), hKc.trans hk⟩
     with_reducible rfl)
  · (simp only [Act.put, List.setIfInBounds_toArray, List.set_cons_zero, List.set_cons_succ]; with_reducible rfl)
  clear hKc
  intro w2 hw2 hKc
  clear hw2
  repeat (first
    | (refine seq_take (v := ?_) (a' := ?_) (by rfl) ?_ ?_ ?_
       rotate_left 2
       · (intro w hSw; obtain ⟨-, hSw⟩ := hSw; go_split_ands; go_simp; with_reducible rfl)
       · (simp only [Act.put, List.setIfInBounds_toArray, List.set_cons_zero, List.set_cons_succ]; with_reducible rfl)))
  refine seq_callR (R := fun w' => Keep V w') (f := 35) (args := ?_) (v := ?_) (a' := ?_) (by rfl) (by rfl) (by rfl) Try.call35 ?_ ?_ ?_ ?_
  rotate_left 3
  · (go_simp; with_reducible rfl)
  · ((with_reducible refine (HR.out _ (HK.out.trans hKc)).mono ?_)
     rintro e w' ⟨rfl, hk⟩
     refine ⟨?_, HSS.out _ (Only.of_keep _ (hKc.trans hk)), hKc.trans hk⟩
     with_reducible rfl)
  · (simp only [Act.put, List.setIfInBounds_toArray, List.set_cons_zero, List.set_cons_succ]; with_reducible rfl)
  clear hKc
  intro w2' hw2 hKc
  clear hw2
  repeat (first
    | (refine seq_take (v := ?_) (a' := ?_) (by rfl) ?_ ?_ ?_
       rotate_left 2
       · (intro w hSw; obtain ⟨-, hSw⟩ := hSw; go_split_ands; go_simp; with_reducible rfl)
       · (simp only [Act.put, List.setIfInBounds_toArray, List.set_cons_zero, List.set_cons_succ]; with_reducible rfl)))
  have H3 := Lib.hid (HB3.out.keep hKc)
  have HK1 := Lib.hid (HK.out.trans hKc)
  obtain ⟨a0, a1, a2, a3⟩ := H3.out.cells
  dsimp only [nil0] at a0 a1 a2 a3
  obtain ⟨f0, f1, f2, f3⟩ := H3.out.free
  refine seq_store (w' := (((w2'.setCell ⟨w.heap.size + 1, 0, none⟩ (.int .i64 a.c)).setCell ⟨w.heap.size + 1, 1, none⟩ (.int .i64 a.s)).setCell ⟨w.heap.size + 1, 2, none⟩ (.int .i64 a.mn)).setCell ⟨w.heap.size + 1, 3, none⟩ (.int .i64 a.mx)) (a' := ?_) (by rfl) (by go_simp) (HSS.out _ (set_only (S := fun k => k = w.heap.size + 1) (Only.of_keep _ hKc) rfl)) ?_ ?_
  rotate_left
  · (simp only [Act.put]; with_reducible rfl)
  refine seq_nil ?_
  go_wp2
  have hO : Only (fun k => k = w.heap.size + 1) w2' ((((w2'.setCell ⟨w.heap.size + 1, 0, none⟩ (.int .i64 a.c)).setCell ⟨w.heap.size + 1, 1, none⟩ (.int .i64 a.s)).setCell ⟨w.heap.size + 1, 2, none⟩ (.int .i64 a.mn)).setCell ⟨w.heap.size + 1, 3, none⟩ (.int .i64 a.mx)) := set_only (S := fun k => k = w.heap.size + 1) (Only.refl _ w2') rfl
  have hF := set_at H3.out a.c a.s a.mn a.mx
  have hkF := Only.keep HK1.out hO (fun k hk => by omega)
  generalize (((w2'.setCell ⟨w.heap.size + 1, 0, none⟩ (.int .i64 a.c)).setCell ⟨w.heap.size + 1, 1, none⟩ (.int .i64 a.s)).setCell ⟨w.heap.size + 1, 2, none⟩ (.int .i64 a.mn)).setCell ⟨w.heap.size + 1, 3, none⟩ (.int .i64 a.mx) = WF at *
  obtain ⟨g0, g1, g2, g3⟩ := hF.cells
  dsimp only at g0 g1 g2 g3
  exact bodyPost_ret (v := .agg #[.int .i64 a.c, .int .i64 a.s, .int .i64 a.mn, .int .i64 a.mx]) (by simp [results, Try.results18, go_sem, g0, g1, g2, g3]) rfl ⟨rfl, hkF⟩
theorem tre_get (h : Tre w0 b lim n t kvs Pr w) (hl : kvs.length ≤ 1000000) (key : Int) (a : Ag) (ha : ofL (vs (kvs.filter (inS key key))) = a) (v : Bool) (hv : decide (0 < a.c) = v) :
    Calls Try.prog 19 #[.pointer (some ⟨b, 0, none⟩), .int .u32 key] w fun e w' => e = .returned (.tuple #[.int .i64 a.s, .bool v]) ∧ Keep w w' := by
  have hf := tre_fold h hl key key
  rw [ha] at hf
  have HV := Lib.hid hv
  clear h hl ha hv
  go_enter Try.func19, Try.ntmps19
  go_wp2_with fail
  refine hf.mono ?_
  rintro e w1 ⟨rfl, hk⟩
  have HK := Lib.hid (hk.alloc (.cells #[.int .i64 a.c, .int .i64 a.s, .int .i64 a.mn, .int .i64 a.mx] 38))
  have HA := Lib.hid (AgAt.new w1 a)
  clear hf hk
  go_wp2_with fail
  generalize w1.alloc (.cells #[.int .i64 a.c, .int .i64 a.s, .int .i64 a.mn, .int .i64 a.mx] 38) = V at *
  obtain ⟨a0, a1, a2, a3⟩ := HA.out.cells
  go_region
  go_wp2
  exact bodyPost_ret (v := .tuple #[.int .i64 a.s, .bool (decide (0 < a.c))]) (by simp [results, Try.results19, go_sem]) rfl ⟨by rw [HV.out], HK.out.drew⟩
theorem root_kill (h : Tre w0 b lim n t kvs Pr w) (hl : kvs.length ≤ 1000000) (p q : Int) : Calls Try.prog 34 #[.pointer (some ⟨b, 0, none⟩), .int .i32 1, .agg #[.int .u32 0, .int .u32 4294967295], .agg #[.int .u32 p, .int .u32 q]] w fun e w' => (∃ u, e = .returned u) ∧ Tre w0 b lim n t (kvs.filter (fun x => !inS p q x)) Pr w' ∧ Only (fun k => ¬ Pr k) w w' := by
  obtain ⟨xs, hM, hT, hN, rfl⟩ := h
  refine (kill_any (p := p) (q := q) 32 0 1 t kvs xs Pr w (by decide) (by decide) hT hN (by decide) hl hM).mono ?_
  rintro e w' ⟨xs', ⟨he, h1, h2, h3⟩, hm, ho⟩
  refine ⟨he, ⟨xs', hm, h3, ?_, h1⟩, ho⟩
  cases t with
  | nil => simp only [Num, h1] at hN ⊢; exact hN
  | node j l r => exact hN
set_option maxRecDepth 100000 in
set_option maxHeartbeats 2000000 in
theorem tre_kill (h : Tre w0 b lim n t kvs Pr w) (hl : kvs.length ≤ 1000000) (p q : Int) :
    Calls Try.prog 17 #[.pointer (some ⟨b, 0, none⟩), .agg #[.int .u32 p, .int .u32 q]] w fun e w' => e = .returned (.int .i64 (ofL (vs (kvs.filter (inS p q)))).c) ∧ Tre w0 b lim n t (kvs.filter (fun x => !inS p q x)) Pr w' ∧ Only (fun k => ¬ Pr k) w w' := by
  have HKs := Lib.hid ((Keep.refl w).alloc (.cells #[.int .u32 p, .int .u32 q] 36))
  have HB := Lib.hid (SpB.new w p q)
  have HT := Lib.hid (h.keep HKs.out)
  have HF := Lib.hid (tre_fold (h.keep HKs.out) hl p q)
  have HL := Lib.hid hl
  generalize ofL (vs (kvs.filter (inS p q))) = a at *
  clear h hl
  go_enter Try.func17, Try.ntmps17
  go_wp2_with fail
  generalize w.alloc (.cells #[.int .u32 p, .int .u32 q] 36) = V at *
  refine HF.out.mono ?_
  rintro e w1 ⟨rfl, hk1⟩
  have run1 := run_count a
  have HB1 := Lib.hid (HB.out.keep hk1)
  have HT1 := Lib.hid (HT.out.kept hk1)
  have HO1 := Lib.hid (Only.of_keep (fun k => ¬ Pr k) (HKs.out.trans hk1))
  have HLt := Lib.hid HB.out.lt
  clear hk1 HF HB HT HKs
  go_wp2_with fail
  have HC := Lib.hid (show ∀ w', Only (fun k => ¬ (Pr k ∨ w.heap.size ≤ k ∧ k < V.heap.size)) w1 w' → True ∧ (w'.cell? ⟨w.heap.size, 0, none⟩ = some (.int .u32 p) ∧ w'.cell? ⟨w.heap.size, 1, none⟩ = some (.int .u32 q)) from fun w' ho => ⟨trivial, (HB1.out.only ho (fun h => h (.inr ⟨Nat.le_refl _, HLt.out⟩))).cells⟩)
  have hKc := (Keep.refl w1).drew
  refine seq_region (S := fun w' => True ∧ (w'.cell? ⟨w.heap.size, 0, none⟩ = some (.int .u32 p) ∧ w'.cell? ⟨w.heap.size, 1, none⟩ = some (.int .u32 q))) [⟨0, 1, 1024⟩, ⟨0, 0, 2048⟩, ⟨0, 8, 4096⟩, ⟨7, 7168, 8192⟩] [(0, false), (2, false), (1, true), (3, true)] rfl (by kernel_rfl) (by kernel_rfl) (fun _ _ d _ _ h => by cases d <;> exact h) (HC.out _ (Only.of_keep _ hKc)) ?_
  simp only [rowsOf, rowAt, gslot, List.map_cons, List.map_nil, List.getElem?_toArray, List.getElem?_cons_zero, List.getElem?_cons_succ]
  repeat (first
    | (refine seq_take (v := ?_) (a' := ?_) (by rfl) ?_ ?_ ?_
       rotate_left 2
       · (intro w hSw; obtain ⟨-, hSw⟩ := hSw; go_split_ands; go_simp; with_reducible rfl)
       · (simp only [Act.put, List.setIfInBounds_toArray, List.set_cons_zero, List.set_cons_succ]; with_reducible rfl)))
  refine seq_callR (R := fun w' => Keep w1 w') (f := 33) (args := ?_) (v := ?_) (a' := ?_) (by rfl) (by rfl) (by rfl) Try.call33 ?_ ?_ ?_ ?_
  rotate_left 3
  · (go_simp; with_reducible rfl)
  · ((with_reducible refine (every_is _).mono ?_)
     rintro e w' ⟨rfl, hk⟩
     refine ⟨?_, HC.out _ (Only.of_keep _ (hKc.trans hk)), hKc.trans hk⟩
     with_reducible rfl)
  · (simp only [Act.put, List.setIfInBounds_toArray, List.set_cons_zero, List.set_cons_succ]; with_reducible rfl)
  clear hKc
  intro w2 hw2 hKc
  clear hw2
  repeat (first
    | (refine seq_take (v := ?_) (a' := ?_) (by rfl) ?_ ?_ ?_
       rotate_left 2
       · (intro w hSw; obtain ⟨-, hSw⟩ := hSw; go_split_ands; go_simp; with_reducible rfl)
       · (simp only [Act.put, List.setIfInBounds_toArray, List.set_cons_zero, List.set_cons_succ]; with_reducible rfl)))
  refine seq_callE (R := fun w' => Tre w0 b lim n t (kvs.filter (fun x => !inS p q x)) (fun k => Pr k ∨ w.heap.size ≤ k ∧ k < V.heap.size) w' ∧ Only (fun k => ¬ (Pr k ∨ w.heap.size ≤ k ∧ k < V.heap.size)) w2 w') (f := 34) (args := ?_) (by rfl) (by rfl) (by rfl) Try.call34 ?_ ?_ ?_
  rotate_left
  · (go_simp; with_reducible rfl)
  · ((with_reducible refine (root_kill (HT1.out.kept hKc) HL.out p q).mono ?_)
     rintro e w' ⟨hu, ht, ho⟩
     exact ⟨hu, HC.out _ ((Only.of_keep _ hKc).trans ho (fun _ _ h => h)), ht, ho⟩)
  intro u w3 hw3 ⟨ht, ho⟩
  clear hw3
  refine seq_nil ?_
  have HT3 := Lib.hid ht
  have HO3 := Lib.hid ((HO1.out.trans (Only.of_keep (fun _ => False) hKc) (fun _ _ h => h.elim)).trans ho (fun k _ h hp => h (.inl hp)))
  clear ht ho hKc
  go_wp2
  go_ret
  exact ⟨rfl, HT3.out.mono (fun _ h => .inl h), HO3.out⟩
theorem tre_drop (h : Tre w0 b lim n t kvs Pr w) (hl : kvs.length ≤ 1000000) (key : Int) (v : Bool) (hv : decide (0 < (ofL (vs (kvs.filter (inS key key)))).c) = v) :
    Calls Try.prog 15 #[.pointer (some ⟨b, 0, none⟩), .int .u32 key] w fun e w' => e = .returned (.bool v) ∧ Tre w0 b lim n t (kvs.filter (fun x => !inS key key x)) Pr w' ∧ Only (fun k => ¬ Pr k) w w' := by
  have hk := tre_kill h hl key key
  have HV := Lib.hid hv
  generalize ofL (vs (kvs.filter (inS key key))) = a at *
  clear h hl hv
  go_enter Try.func15, Try.ntmps15
  go_wp2_with fail
  refine hk.mono ?_
  rintro e w1 ⟨rfl, ht, ho⟩
  have HT := Lib.hid ht
  have HO := Lib.hid ho
  clear hk ht ho
  go_wp2
  go_ret
  exact ⟨by rw [← HV.out]; rfl, HT.out, HO.out⟩
theorem root_put (h : Tre w0 b lim n t kvs Pr w) (hl : kvs.length ≤ 999999) {key v : Int} (k0 : 0 ≤ key) (k1 : key ≤ 4294967295) (hv : inI v) (hlim : n + lack 32 0 key t ≤ lim) : Calls Try.prog 32 #[.pointer (some ⟨b, 0, none⟩), .int .i32 1, .agg #[.int .u32 0, .int .u32 4294967295], .int .u32 key, .int .i64 v] w fun e w' => (∃ u, e = .returned u) ∧ Tre w0 b lim (n + lack 32 0 key t) (grow 32 0 key n t) (insK key v kvs) Pr w' ∧ Only (fun k => ¬ Pr k) w w' := by
  obtain ⟨xs, hM, hT, hN, rfl⟩ := h
  refine (put_any (key := key) hv 32 0 1 t kvs xs Pr w (by decide) (by decide) hT hN (by decide) hl hM k0 (by simp; omega) hlim).mono ?_
  rintro e w' ⟨xs', ⟨he, h1, h2, h3⟩, hm, ho⟩
  refine ⟨⟨_, he⟩, ⟨xs', hm, h3, ?_, h1⟩, ho⟩
  cases t with
  | nil =>
    have h0 : xs.length = 0 := by
      simp only [Num] at hN
      omega
    rw [h0]
    have e := grow_nil_idx 32 0 key 0
    generalize grow 32 0 key 0 .nil = g at *
    cases g with
    | nil => simp [Sh.idx] at e
    | node j l r => simpa [Num, Sh.idx] using e.symm
  | node j l r =>
    have e := grow_idx 32 0 key xs.length j l r
    generalize grow 32 0 key xs.length (.node j l r) = g at *
    cases g with
    | nil => simp [Sh.idx] at e; omega
    | node j' l' r' =>
      simp [Sh.idx] at e
      simp only [Num] at hN ⊢
      omega
theorem Tre.lack_is (h : Tre w0 b lim n t kvs Pr w) {key : Int} (k0 : 0 ≤ key) (k1 : key ≤ 4294967295) : Calls Try.prog 30 #[.pointer (some ⟨b, 0, none⟩), .int .u32 key] w fun e w' => e = .returned (.int .i64 (lack 32 0 key t)) ∧ Keep w w' := by
  obtain ⟨xs, hM, hT, hN, rfl⟩ := h
  exact lacking_is hM hT.shp hT.fit hN k0 k1
theorem Tre.room_is (h : Tre w0 b lim n t kvs Pr w) : Calls Try.prog 31 #[.pointer (some ⟨b, 0, none⟩)] w fun e w' => e = .returned (.int .i64 ((lim : Int) - (n : Int))) ∧ Keep w w' := by
  obtain ⟨xs, hM, hT, hN, rfl⟩ := h
  exact my_room hM
set_option maxRecDepth 100000 in
set_option maxHeartbeats 2000000 in
theorem tre_put_no (h : Tre w0 b lim n t kvs Pr w) {key v : Int} (k0 : 0 ≤ key) (k1 : key ≤ 4294967295) (hlim : lim < n + lack 32 0 key t) :
    Calls Try.prog 13 #[.pointer (some ⟨b, 0, none⟩), .int .u32 key, .int .i64 v] w fun e w' => e = .returned (.int .i64 6) ∧ Keep w w' := by
  have HL := Lib.hid (fun W (hk : Keep w W) => (h.kept hk).lack_is k0 k1)
  have HR := Lib.hid (fun W (hk : Keep w W) => (h.kept hk).room_is)
  have hfull : decide ((lim : Int) - (n : Int) < (lack 32 0 key t : Int)) = true := decide_eq_true (by have := h.fits; omega)
  generalize lack 32 0 key t = L at *
  have hKc := (Keep.refl w).drew
  clear h  k0 k1 hlim
  go_enter Try.func13, Try.ntmps13
  go_wp2_with fail
  refine seq_region (S := fun _ => True) [⟨0, 1, 128⟩, ⟨0, 2, 256⟩, ⟨3, 384, 512⟩, ⟨0, 1, 1024⟩, ⟨8, 1024, 2048⟩, ⟨16, 2048, 4096⟩, ⟨36, 4096, 8192⟩, ⟨68, 8704, 16384⟩] [(0, false), (1, false), (3, false), (4, false), (5, false), (2, true), (6, true), (7, false)] rfl (by kernel_rfl) (by kernel_rfl) (fun _ _ d _ _ h => by cases d <;> exact h) trivial ?_
  simp only [rowsOf, rowAt, gslot, List.map_cons, List.map_nil, List.getElem?_toArray, List.getElem?_cons_zero, List.getElem?_cons_succ]
  repeat (first
    | (refine seq_take (v := ?_) (a' := ?_) (by rfl) ?_ ?_ ?_
       rotate_left 2
       · (intro w hSw; go_simp; with_reducible rfl)
       · (simp only [Act.put, List.setIfInBounds_toArray, List.set_cons_zero, List.set_cons_succ]; with_reducible rfl)))
  refine seq_callR (R := fun w' => Keep w w') (f := 30) (args := ?_) (v := ?_) (a' := ?_) (by rfl) (by rfl) (by rfl) Try.call30 ?_ ?_ ?_ ?_
  rotate_left 3
  · (go_simp; with_reducible rfl)
  · ((with_reducible refine (HL.out _ hKc).mono ?_)
     rintro e w' ⟨rfl, hk⟩
     refine ⟨?_, trivial, hKc.trans hk⟩
     with_reducible rfl)
  · (simp only [Act.put, List.setIfInBounds_toArray, List.set_cons_zero, List.set_cons_succ]; with_reducible rfl)
  clear hKc
  intro w2 hw2 hKc
  clear hw2
  repeat (first
    | (refine seq_take (v := ?_) (a' := ?_) (by rfl) ?_ ?_ ?_
       rotate_left 2
       · (intro w hSw; go_simp; with_reducible rfl)
       · (simp only [Act.put, List.setIfInBounds_toArray, List.set_cons_zero, List.set_cons_succ]; with_reducible rfl)))
  refine seq_callR (R := fun w' => Keep w w') (f := 31) (args := ?_) (v := ?_) (a' := ?_) (by rfl) (by rfl) (by rfl) Try.call31 ?_ ?_ ?_ ?_
  rotate_left 3
  · (go_simp; with_reducible rfl)
  · ((with_reducible refine (HR.out _ hKc).mono ?_)
     rintro e w' ⟨rfl, hk⟩
     refine ⟨?_, trivial, hKc.trans hk⟩
     with_reducible rfl)
  · (simp only [Act.put, List.setIfInBounds_toArray, List.set_cons_zero, List.set_cons_succ]; with_reducible rfl)
  clear hKc
  intro w3 hw3 hKc
  clear hw3
  repeat (first
    | (refine seq_take (v := ?_) (a' := ?_) (by rfl) ?_ ?_ ?_
       rotate_left 2
       · (intro w hSw; go_simp; with_reducible rfl)
       · (simp only [Act.put, List.setIfInBounds_toArray, List.set_cons_zero, List.set_cons_succ]; with_reducible rfl)))
  refine seq_nil ?_
  have HKc := Lib.hid hKc
  clear hKc
  go_wp2_with fail
  go_ret
  exact ⟨rfl, HKc.out⟩
set_option maxRecDepth 100000 in
set_option maxHeartbeats 2000000 in
theorem tre_put_yes (h : Tre w0 b lim n t kvs Pr w) (hl : kvs.length ≤ 999999) {key v : Int} (k0 : 0 ≤ key) (k1 : key ≤ 4294967295) (hv : inI v) (hlim : n + lack 32 0 key t ≤ lim) :
    Calls Try.prog 13 #[.pointer (some ⟨b, 0, none⟩), .int .u32 key, .int .i64 v] w fun e w' => e = .returned (.int .i64 0) ∧ Tre w0 b lim (n + lack 32 0 key t) (grow 32 0 key n t) (insK key v kvs) Pr w' ∧ Only (fun k => ¬ Pr k) w w' := by
  have HL := Lib.hid (fun W (hk : Keep w W) => (h.kept hk).lack_is k0 k1)
  have HR := Lib.hid (fun W (hk : Keep w W) => (h.kept hk).room_is)
  have HP := Lib.hid (fun W (hk : Keep w W) => root_put (h.kept hk) hl k0 k1 hv hlim)
  have hfull : decide ((lim : Int) - (n : Int) < (lack 32 0 key t : Int)) = false := decide_eq_false (by have := h.fits; omega)
  generalize lack 32 0 key t = L at *
  have hKc := (Keep.refl w).drew
  clear h hl hv k0 k1 hlim
  go_enter Try.func13, Try.ntmps13
  go_wp2_with fail
  refine seq_region (S := fun _ => True) [⟨0, 1, 128⟩, ⟨0, 2, 256⟩, ⟨3, 384, 512⟩, ⟨0, 1, 1024⟩, ⟨8, 1024, 2048⟩, ⟨16, 2048, 4096⟩, ⟨36, 4096, 8192⟩, ⟨68, 8704, 16384⟩] [(0, false), (1, false), (3, false), (4, false), (5, false), (2, true), (6, true), (7, false)] rfl (by kernel_rfl) (by kernel_rfl) (fun _ _ d _ _ h => by cases d <;> exact h) trivial ?_
  simp only [rowsOf, rowAt, gslot, List.map_cons, List.map_nil, List.getElem?_toArray, List.getElem?_cons_zero, List.getElem?_cons_succ]
  repeat (first
    | (refine seq_take (v := ?_) (a' := ?_) (by rfl) ?_ ?_ ?_
       rotate_left 2
       · (intro w hSw; go_simp; with_reducible rfl)
       · (simp only [Act.put, List.setIfInBounds_toArray, List.set_cons_zero, List.set_cons_succ]; with_reducible rfl)))
  refine seq_callR (R := fun w' => Keep w w') (f := 30) (args := ?_) (v := ?_) (a' := ?_) (by rfl) (by rfl) (by rfl) Try.call30 ?_ ?_ ?_ ?_
  rotate_left 3
  · (go_simp; with_reducible rfl)
  · ((with_reducible refine (HL.out _ hKc).mono ?_)
     rintro e w' ⟨rfl, hk⟩
     refine ⟨?_, trivial, hKc.trans hk⟩
     with_reducible rfl)
  · (simp only [Act.put, List.setIfInBounds_toArray, List.set_cons_zero, List.set_cons_succ]; with_reducible rfl)
  clear hKc
  intro w2 hw2 hKc
  clear hw2
  repeat (first
    | (refine seq_take (v := ?_) (a' := ?_) (by rfl) ?_ ?_ ?_
       rotate_left 2
       · (intro w hSw; go_simp; with_reducible rfl)
       · (simp only [Act.put, List.setIfInBounds_toArray, List.set_cons_zero, List.set_cons_succ]; with_reducible rfl)))
  refine seq_callR (R := fun w' => Keep w w') (f := 31) (args := ?_) (v := ?_) (a' := ?_) (by rfl) (by rfl) (by rfl) Try.call31 ?_ ?_ ?_ ?_
  rotate_left 3
  · (go_simp; with_reducible rfl)
  · ((with_reducible refine (HR.out _ hKc).mono ?_)
     rintro e w' ⟨rfl, hk⟩
     refine ⟨?_, trivial, hKc.trans hk⟩
     with_reducible rfl)
  · (simp only [Act.put, List.setIfInBounds_toArray, List.set_cons_zero, List.set_cons_succ]; with_reducible rfl)
  clear hKc
  intro w3 hw3 hKc
  clear hw3
  repeat (first
    | (refine seq_take (v := ?_) (a' := ?_) (by rfl) ?_ ?_ ?_
       rotate_left 2
       · (intro w hSw; go_simp; with_reducible rfl)
       · (simp only [Act.put, List.setIfInBounds_toArray, List.set_cons_zero, List.set_cons_succ]; with_reducible rfl)))
  refine seq_nil ?_
  have HKc := Lib.hid hKc
  clear hKc
  go_wp2_with fail
  refine (every_is w3).mono ?_
  rintro e w4 ⟨rfl, hk4⟩
  have HK4 := Lib.hid (HKc.out.trans hk4)
  clear hk4
  go_wp2_with fail
  refine (HP.out _ HK4.out).mono ?_
  rintro e w5 ⟨⟨u, rfl⟩, ht, ho⟩
  have HT5 := Lib.hid ht
  have HO5 := Lib.hid ((Only.of_keep (fun k => ¬ Pr k) HK4.out).trans ho (fun _ _ h => h))
  clear ht ho
  go_wp2
  go_ret
  exact ⟨rfl, HT5.out, HO5.out⟩
end
end Go.Proofs.Ytopengbflnoneaa
