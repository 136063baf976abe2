/- segtree.settle: a node is set, with what is told of those below it. -/
import Derived.Test.YtopengbflnoneaaSegFold
import Derived.Test.YtopengbflnoneaaSegTree
import Derived.Test.YtopengbflnoneaaArnMy
namespace Go.Proofs.Ytopengbflnoneaa
open Go.RowKit

/-- A node's four numbers stored anew. -/
theorem NdAt.told {w : World} {b : Nat} {z : Nd} (h : NdAt w b z) (a : Ag) : NdAt ((((w.setCell ⟨b, 2, none⟩ (.int .i64 a.c)).setCell ⟨b, 3, none⟩ (.int .i64 a.s)).setCell ⟨b, 4, none⟩ (.int .i64 a.mn)).setCell ⟨b, 5, none⟩ (.int .i64 a.mx)) b (ndOf z.l z.r a z.k) := by
  have hb := h.lt
  unfold NdAt at *
  simp only [World.setCell, Array.getElem?_modify, h, if_true, Option.map_some]
  rfl
theorem told_only {S : Nat → Prop} {W w1 : World} {p : Nat} (h : Only S W w1) (hp : S p) (a : Ag) : Only S W ((((w1.setCell ⟨p, 2, none⟩ (.int .i64 a.c)).setCell ⟨p, 3, none⟩ (.int .i64 a.s)).setCell ⟨p, 4, none⟩ (.int .i64 a.mn)).setCell ⟨p, 5, none⟩ (.int .i64 a.mx)) :=
  (((h.setCell _ _ hp).setCell _ _ hp).setCell _ _ hp).setCell _ _ hp
theorem ndF : ∃ f0 f1 f2 f3 : Field, Try.prog.underlying 96 = some (.struct #[f0, f1, f2, f3]) ∧ f2.offset = 2 ∧ f2.type = 38 := ⟨_, _, _, _, Try.underlying96, by kernel_rfl, by kernel_rfl⟩
/-- What a node tells, as a part of it. -/
theorem run_told (z : Nd) (w : World) : (Instr.field 96 (.agg #[.int .i32 z.l, .int .i32 z.r, .int .i64 z.c, .int .i64 z.s, .int .i64 z.mn, .int .i64 z.mx, .bool z.k]) 2).run Try.prog w = .ok (.agg #[.int .i64 (nag z).c, .int .i64 (nag z).s, .int .i64 (nag z).mn, .int .i64 (nag z).mx]) w := by
  obtain ⟨f0, f1, f2, f3, e, o2, t2⟩ := ndF
  simp [Instr.field, asAgg, run_underlying e, o2, t2, part, go_sem, nag]
set_option maxRecDepth 100000 in
set_option maxHeartbeats 2000000 in
theorem settle_any {w0 w : World} {b lim : Nat} {xs : List Nd} {Pr : Nat → Prop} (j : Nat) (n zl zr : Nd) (hM : My w0 b lim xs Pr w) (hj : j < xs.length)
    (hL : ∀ W, Keep w W → Calls Try.prog 55 #[.pointer (some ⟨b, 0, none⟩), .int .i32 n.l] W fun e w' => e = .returned (.agg #[.int .i32 zl.l, .int .i32 zl.r, .int .i64 zl.c, .int .i64 zl.s, .int .i64 zl.mn, .int .i64 zl.mx, .bool zl.k]) ∧ Keep W w')
    (hR : ∀ W, Keep w W → Calls Try.prog 55 #[.pointer (some ⟨b, 0, none⟩), .int .i32 n.r] W fun e w' => e = .returned (.agg #[.int .i32 zr.l, .int .i32 zr.r, .int .i64 zr.c, .int .i64 zr.s, .int .i64 zr.mn, .int .i64 zr.mx, .bool zr.k]) ∧ Keep W w') :
    Calls Try.prog 54 #[.pointer (some ⟨b, 0, none⟩), .int .i32 ((j : Int) + 1), .agg #[.int .i32 n.l, .int .i32 n.r, .int .i64 n.c, .int .i64 n.s, .int .i64 n.mn, .int .i64 n.mx, .bool n.k]] w fun e w' => (∃ v, e = .returned v) ∧ My w0 b lim (xs.set j (ndOf n.l n.r (mrg (nag zl) (nag zr)) n.k)) Pr w' ∧ Only (fun k => ¬ Pr k) w w' := by
  have HK := Lib.hid ((Keep.refl w).alloc (.cells #[.int .i32 n.l, .int .i32 n.r, .int .i64 n.c, .int .i64 n.s, .int .i64 n.mn, .int .i64 n.mx, .bool n.k] 96))
  have HN := Lib.hid (NdAt.new w n)
  have HM := Lib.hid hM
  have HL := Lib.hid hL
  have HR := Lib.hid hR
  have t1 := run_told zl
  have t2 := run_told zr
  have mg := merge_any (nag zl) (nag zr)
  dsimp only [nag] at t1 t2 mg
  rw [show mrg (nag zl) (nag zr) = mrg ⟨zl.c, zl.s, zl.mn, zl.mx⟩ ⟨zr.c, zr.s, zr.mn, zr.mx⟩ from rfl]
  generalize mrg ⟨zl.c, zl.s, zl.mn, zl.mx⟩ ⟨zr.c, zr.s, zr.mn, zr.mx⟩ = M at *
  clear hM hL hR
  go_enter Try.func54, Try.ntmps54
  go_wp2_with fail
  generalize w.alloc (.cells #[.int .i32 n.l, .int .i32 n.r, .int .i64 n.c, .int .i64 n.s, .int .i64 n.mn, .int .i64 n.mx, .bool n.k] 96) = V at *
  have HSS := Lib.hid (show ∀ w', Keep V w' → True ∧ (w'.cell? ⟨w.heap.size, 0, none⟩ = some (.int .i32 n.l) ∧ w'.cell? ⟨w.heap.size, 1, none⟩ = some (.int .i32 n.r)) from fun w' h => ⟨trivial, (HN.out.keep h).cells.1, (HN.out.keep h).cells.2.1⟩)
  have hKc := (Keep.refl V).drew
  refine seq_region (S := fun w' => True ∧ (w'.cell? ⟨w.heap.size, 0, none⟩ = some (.int .i32 n.l) ∧ w'.cell? ⟨w.heap.size, 1, none⟩ = some (.int .i32 n.r))) [⟨0, 1, 64⟩, ⟨0, 32, 128⟩, ⟨2, 128, 256⟩, ⟨5, 320, 512⟩, ⟨8, 512, 1024⟩, ⟨0, 1, 2048⟩, ⟨0, 32, 4096⟩, ⟨64, 4096, 8192⟩, ⟨168, 10240, 16384⟩, ⟨256, 16384, 32768⟩, ⟨784, 33792, 65536⟩, ⟨2047, 32, 131072⟩, ⟨4095, 196608, 0⟩] [(0, false), (1, false), (2, false), (5, false), (6, false), (7, false), (3, true), (4, false), (8, true), (9, false), (10, true), (11, false), (12, true)] rfl (by kernel_rfl) (by kernel_rfl) (fun _ _ d _ _ h => by cases d <;> exact h) (HSS.out _ hKc) ?_
  simp only [rowsOf, rowAt, gslot, List.map_cons, List.map_nil, List.getElem?_toArray, List.getElem?_cons_zero, List.getElem?_cons_succ]
  repeat (first
    | (refine seq_take (v := ?_) (a' := ?_) (by rfl) ?_ ?_ ?_
       rotate_left 2
       · (intro w hSw; obtain ⟨-, hSw⟩ := hSw; go_split_ands; go_simp; with_reducible rfl)
       · (simp only [Act.put, List.setIfInBounds_toArray, List.set_cons_zero, List.set_cons_succ]; with_reducible rfl)))
  refine seq_callR (R := fun w' => Keep V w') (f := 55) (args := ?_) (v := ?_) (a' := ?_) (by rfl) (by rfl) (by rfl) Try.call55 ?_ ?_ ?_ ?_
  rotate_left 3
  · (go_simp; with_reducible rfl)
  · ((with_reducible refine (HL.out _ (HK.out.trans hKc)).mono ?_)
     rintro e w' ⟨rfl, hk⟩
     refine ⟨?_, HSS.out _ (hKc.trans hk), hKc.trans hk⟩
     with_reducible rfl)
  · (simp only [Act.put, List.setIfInBounds_toArray, List.set_cons_zero, List.set_cons_succ]; with_reducible rfl)
  clear hKc
  intro w2 hw2 hKc
  clear hw2
  repeat (first
    | (refine seq_take (v := ?_) (a' := ?_) (by rfl) ?_ ?_ ?_
       rotate_left 2
       · (intro w hSw; obtain ⟨-, hSw⟩ := hSw; go_split_ands; go_simp; with_reducible rfl)
       · (simp only [Act.put, List.setIfInBounds_toArray, List.set_cons_zero, List.set_cons_succ]; with_reducible rfl)))
  refine seq_callR (R := fun w' => Keep V w') (f := 55) (args := ?_) (v := ?_) (a' := ?_) (by rfl) (by rfl) (by rfl) Try.call55 ?_ ?_ ?_ ?_
  rotate_left 3
  · (go_simp; with_reducible rfl)
  · ((with_reducible refine (HR.out _ (HK.out.trans hKc)).mono ?_)
     rintro e w' ⟨rfl, hk⟩
     refine ⟨?_, HSS.out _ (hKc.trans hk), hKc.trans hk⟩
     with_reducible rfl)
  · (simp only [Act.put, List.setIfInBounds_toArray, List.set_cons_zero, List.set_cons_succ]; with_reducible rfl)
  clear hKc
  intro w2 hw2 hKc
  clear hw2
  repeat (first
    | (refine seq_take (v := ?_) (a' := ?_) (by rfl) ?_ ?_ ?_
       rotate_left 2
       · (intro w hSw; obtain ⟨-, hSw⟩ := hSw; go_split_ands; go_simp; with_reducible rfl)
       · (simp only [Act.put, List.setIfInBounds_toArray, List.set_cons_zero, List.set_cons_succ]; with_reducible rfl)))
  refine seq_callR (R := fun w' => Keep V w') (f := 59) (args := ?_) (v := ?_) (a' := ?_) (by rfl) (by rfl) (by rfl) Try.call59 ?_ ?_ ?_ ?_
  rotate_left 3
  · (go_simp; with_reducible rfl)
  · ((with_reducible refine (mg _).mono ?_)
     rintro e w' ⟨rfl, hk⟩
     refine ⟨?_, HSS.out _ (hKc.trans hk), hKc.trans hk⟩
     with_reducible rfl)
  · (simp only [Act.put, List.setIfInBounds_toArray, List.set_cons_zero, List.set_cons_succ]; with_reducible rfl)
  clear hKc
  intro w2 hw2 hKc
  clear hw2
  repeat (first
    | (refine seq_take (v := ?_) (a' := ?_) (by rfl) ?_ ?_ ?_
       rotate_left 2
       · (intro w hSw; obtain ⟨-, hSw⟩ := hSw; go_split_ands; go_simp; with_reducible rfl)
       · (simp only [Act.put, List.setIfInBounds_toArray, List.set_cons_zero, List.set_cons_succ]; with_reducible rfl)))
  have HN2 := Lib.hid (HN.out.keep hKc)
  have HKA := Lib.hid (HK.out.trans hKc)
  have HT := Lib.hid (HN2.out.told M)
  obtain ⟨a0, a1, a2, a3, a4, a5, a6⟩ := HN2.out.cells
  obtain ⟨f0, f1, f2, f3, f4, f5, f6⟩ := HN2.out.free
  refine seq_store (w' := (((w2.setCell ⟨w.heap.size, 2, none⟩ (.int .i64 M.c)).setCell ⟨w.heap.size, 3, none⟩ (.int .i64 M.s)).setCell ⟨w.heap.size, 4, none⟩ (.int .i64 M.mn)).setCell ⟨w.heap.size, 5, none⟩ (.int .i64 M.mx)) (a' := ?_) (by rfl) (by go_simp) ⟨trivial, HT.out.cells.1, HT.out.cells.2.1⟩ ?_ ?_
  rotate_left
  · (simp only [Act.put]; with_reducible rfl)
  refine seq_nil ?_
  clear a0 a1 a2 a3 a4 a5 a6 f0 f1 f2 f3 f4 f5 f6
  have hO : Only (fun k => k = w.heap.size) w2 ((((w2.setCell ⟨w.heap.size, 2, none⟩ (.int .i64 M.c)).setCell ⟨w.heap.size, 3, none⟩ (.int .i64 M.s)).setCell ⟨w.heap.size, 4, none⟩ (.int .i64 M.mn)).setCell ⟨w.heap.size, 5, none⟩ (.int .i64 M.mx)) := told_only (S := fun k => k = w.heap.size) (Only.refl _ w2) rfl _
  have hM2 := (HM.out.keep HKA.out).only hO (fun k hk => by subst hk; exact ⟨.inr ⟨Nat.le_refl _, HN2.out.lt⟩, HM.out.keepW.size⟩)
  have hOw : Only (fun k => ¬ Pr k) w ((((w2.setCell ⟨w.heap.size, 2, none⟩ (.int .i64 M.c)).setCell ⟨w.heap.size, 3, none⟩ (.int .i64 M.s)).setCell ⟨w.heap.size, 4, none⟩ (.int .i64 M.mn)).setCell ⟨w.heap.size, 5, none⟩ (.int .i64 M.mx)) := (Only.of_keep _ HKA.out).trans hO (fun k hk e => by omega)
  have HM2 := Lib.hid hM2
  have HOw := Lib.hid hOw
  clear hO hM2 hOw
  go_wp2_with fail
  generalize (((w2.setCell ⟨w.heap.size, 2, none⟩ (.int .i64 M.c)).setCell ⟨w.heap.size, 3, none⟩ (.int .i64 M.s)).setCell ⟨w.heap.size, 4, none⟩ (.int .i64 M.mn)).setCell ⟨w.heap.size, 5, none⟩ (.int .i64 M.mx) = X at *
  have hC := (show ∀ w', Only (fun k => ¬ (Pr k ∨ w.heap.size ≤ k ∧ k < w2.heap.size)) X w' → True ∧ (w'.cell? ⟨w.heap.size, 0, none⟩ = some (.int .i32 n.l) ∧ w'.cell? ⟨w.heap.size, 1, none⟩ = some (.int .i32 n.r) ∧ w'.cell? ⟨w.heap.size, 2, none⟩ = some (.int .i64 M.c) ∧ w'.cell? ⟨w.heap.size, 3, none⟩ = some (.int .i64 M.s) ∧ w'.cell? ⟨w.heap.size, 4, none⟩ = some (.int .i64 M.mn) ∧ w'.cell? ⟨w.heap.size, 5, none⟩ = some (.int .i64 M.mx) ∧ w'.cell? ⟨w.heap.size, 6, none⟩ = some (.bool n.k)) from fun w' ho => ⟨trivial, (HT.out.only ho (fun h => h (.inr ⟨Nat.le_refl _, HN2.out.lt⟩))).cells⟩)
  have HC := Lib.hid hC
  have hms := my_set j (ndOf n.l n.r M n.k) (HM2.out.kept (Keep.refl X).drew) hj
  have HMS := Lib.hid hms
  have HQ := Lib.hid (show ∀ w', Only (fun k => ¬ (Pr k ∨ w.heap.size ≤ k ∧ k < w2.heap.size)) X.drew w' → Only (fun k => ¬ Pr k) w w' from fun w' ho => HOw.out.drew.trans ho (fun k _ hk hp => hk (.inl hp)))
  clear hC hms
  refine seq_region (S := fun w' => True ∧ (w'.cell? ⟨w.heap.size, 0, none⟩ = some (.int .i32 n.l) ∧ w'.cell? ⟨w.heap.size, 1, none⟩ = some (.int .i32 n.r) ∧ w'.cell? ⟨w.heap.size, 2, none⟩ = some (.int .i64 M.c) ∧ w'.cell? ⟨w.heap.size, 3, none⟩ = some (.int .i64 M.s) ∧ w'.cell? ⟨w.heap.size, 4, none⟩ = some (.int .i64 M.mn) ∧ w'.cell? ⟨w.heap.size, 5, none⟩ = some (.int .i64 M.mx) ∧ w'.cell? ⟨w.heap.size, 6, none⟩ = some (.bool n.k))) [⟨0, 1, 262144⟩, ⟨1, 262144, 524288⟩, ⟨2, 524288, 1048576⟩, ⟨0, 2, 2097152⟩, ⟨0, 32, 4194304⟩, ⟨28, 7340032, 8388608⟩] [(0, false), (1, false), (2, false), (3, false), (4, false), (5, true)] rfl (by kernel_rfl) (by kernel_rfl) (fun _ _ d _ _ h => by cases d <;> exact h) (HC.out _ (Only.refl _ X).drew) ?_
  simp only [rowsOf, rowAt, gslot, List.map_cons, List.map_nil, List.getElem?_toArray, List.getElem?_cons_zero, List.getElem?_cons_succ]
  repeat (first
    | (refine seq_take (v := ?_) (a' := ?_) (by rfl) ?_ ?_ ?_
       rotate_left 2
       · (intro w hSw; obtain ⟨-, hSw⟩ := hSw; go_split_ands; go_simp; with_reducible rfl)
       · (simp only [Act.put, List.setIfInBounds_toArray, List.set_cons_zero, List.set_cons_succ]; with_reducible rfl)))
  refine seq_callR (R := fun w' => My w0 b lim (xs.set j (ndOf n.l n.r M n.k)) (fun k => Pr k ∨ w.heap.size ≤ k ∧ k < w2.heap.size) w' ∧ Only (fun k => ¬ (Pr k ∨ w.heap.size ≤ k ∧ k < w2.heap.size)) X.drew w') (f := 50) (args := ?_) (v := ?_) (a' := ?_) (by rfl) (by rfl) (by rfl) Try.call50 ?_ ?_ ?_ ?_
  rotate_left 3
  · (go_simp; with_reducible rfl)
  · ((refine HMS.out.mono ?_)
     rintro e w' ⟨rfl, hm, ho⟩
     refine ⟨?_, HC.out _ ((Only.refl _ X).drew.trans ho (fun _ _ h => h)), hm, ho⟩
     with_reducible rfl)
  · (simp only [Act.put, List.setIfInBounds_toArray, List.set_cons_zero, List.set_cons_succ]; with_reducible rfl)
  intro w' hw2 ⟨hm, ho⟩
  clear hw2
  refine seq_nil ?_
  go_end0
  exact ⟨⟨_, rfl⟩, hm.mono (fun _ h => .inl h), HQ.out _ ho⟩
end Go.Proofs.Ytopengbflnoneaa
