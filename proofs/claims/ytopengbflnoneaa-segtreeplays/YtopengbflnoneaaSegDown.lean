/- segtree.handDown: a node that isn't killed any more; those right below it are, if it was. -/
import Derived.Test.YtopengbflnoneaaSegKill2
namespace Go.Proofs.Ytopengbflnoneaa
open Go.RowKit

/-- One of two is killed, if it is there. -/
def Round (w0 : World) (b lim : Nat) (i : Int) (P P' : List Nd → Prop) : Prop := ∀ xs, P xs → ∃ (y : Nd) (ev : Int),
  (∀ Pr W, My w0 b lim xs Pr W → Calls Try.prog 55 #[.pointer (some ⟨b, 0, none⟩), .int .i32 i] W fun e w' => e = .returned (.agg #[.int .i32 y.l, .int .i32 y.r, .int .i64 y.c, .int .i64 y.s, .int .i64 y.mn, .int .i64 y.mx, .bool y.k]) ∧ Keep W w') ∧
  (∀ Pr W, My w0 b lim xs Pr W → Calls Try.prog 50 #[.pointer (some ⟨b, 0, none⟩), .int .i32 i, .agg #[.int .i32 (ndOf y.l y.r nil0 true).l, .int .i32 (ndOf y.l y.r nil0 true).r, .int .i64 (ndOf y.l y.r nil0 true).c, .int .i64 (ndOf y.l y.r nil0 true).s, .int .i64 (ndOf y.l y.r nil0 true).mn, .int .i64 (ndOf y.l y.r nil0 true).mx, .bool (ndOf y.l y.r nil0 true).k]] W (Turn w0 b lim Pr W fun e xs' => e = .returned (.int .i64 ev) ∧ P' xs'))
theorem boxesD (w : World) (z : Nd) : NdAt ((w.alloc (.cells #[.int .i32 z.l, .int .i32 z.r, .int .i64 z.c, .int .i64 z.s, .int .i64 z.mn, .int .i64 z.mx, .bool z.k] 96)).alloc (.cells #[.int .i32 0, .int .i32 0, .int .i64 0, .int .i64 0, .int .i64 0, .int .i64 0, .bool false] 96)) w.heap.size z ∧ NdAt ((w.alloc (.cells #[.int .i32 z.l, .int .i32 z.r, .int .i64 z.c, .int .i64 z.s, .int .i64 z.mn, .int .i64 z.mx, .bool z.k] 96)).alloc (.cells #[.int .i32 0, .int .i32 0, .int .i64 0, .int .i64 0, .int .i64 0, .int .i64 0, .bool false] 96)) (w.heap.size + 1) Nd.zero := by
  have h1 := (NdAt.new w z).keep ((Keep.refl _).alloc (.cells #[.int .i32 0, .int .i32 0, .int .i64 0, .int .i64 0, .int .i64 0, .int .i64 0, .bool false] 96))
  have h2 := NdAt.new (w.alloc (.cells #[.int .i32 z.l, .int .i32 z.r, .int .i64 z.c, .int .i64 z.s, .int .i64 z.mn, .int .i64 z.mx, .bool z.k] 96)) Nd.zero
  simp only [World.size_alloc] at h2
  exact ⟨h1, h2⟩
set_option maxRecDepth 100000 in
set_option maxHeartbeats 2000000 in
theorem down_alive {b : Nat} {z : Nd} {w : World} (hk : z.k = false) : Calls Try.prog 52 #[.pointer (some ⟨b, 0, none⟩), .agg #[.int .i32 z.l, .int .i32 z.r, .int .i64 z.c, .int .i64 z.s, .int .i64 z.mn, .int .i64 z.mx, .bool z.k]] w fun e w' => e = .returned (.agg #[.int .i32 z.l, .int .i32 z.r, .int .i64 z.c, .int .i64 z.s, .int .i64 z.mn, .int .i64 z.mx, .bool z.k]) ∧ Keep w w' := by
  rw [hk]
  go_enter Try.func52, Try.ntmps52
  go_wp2
  exact bodyPost_ret (v := .agg #[.int .i32 z.l, .int .i32 z.r, .int .i64 z.c, .int .i64 z.s, .int .i64 z.mn, .int .i64 z.mx, .bool false]) (by simp [results, Try.results52, go_sem]) rfl ⟨rfl, ((Keep.refl w).alloc _).alloc _⟩
set_option maxRecDepth 100000 in
set_option maxHeartbeats 2000000 in
theorem down_killed {w0 w : World} {b lim : Nat} {xs : List Nd} {Pr : Nat → Prop} {z : Nd} {P : Nat → List Nd → Prop} (hk : z.k = true) (hM : My w0 b lim xs Pr w) (h0 : P 0 xs) (hR1 : Round w0 b lim z.l (P 0) (P 1)) (hR2 : Round w0 b lim z.r (P 1) (P 2)) :
    Calls Try.prog 52 #[.pointer (some ⟨b, 0, none⟩), .agg #[.int .i32 z.l, .int .i32 z.r, .int .i64 z.c, .int .i64 z.s, .int .i64 z.mn, .int .i64 z.mx, .bool z.k]] w (Turn w0 b lim Pr w fun e xs' => e = .returned (.agg #[.int .i32 (ndOf z.l z.r (nag z) false).l, .int .i32 (ndOf z.l z.r (nag z) false).r, .int .i64 (ndOf z.l z.r (nag z) false).c, .int .i64 (ndOf z.l z.r (nag z) false).s, .int .i64 (ndOf z.l z.r (nag z) false).mn, .int .i64 (ndOf z.l z.r (nag z) false).mx, .bool (ndOf z.l z.r (nag z) false).k]) ∧ P 2 xs') := by
  have HM := Lib.hid hM
  have HP0 := Lib.hid h0
  have HR1 := Lib.hid hR1
  have HR2 := Lib.hid hR2
  have HK3 := Lib.hid ((((Keep.refl w).alloc (.cells #[.int .i32 z.l, .int .i32 z.r, .int .i64 z.c, .int .i64 z.s, .int .i64 z.mn, .int .i64 z.mx, .bool true] 96)).alloc (.cells #[.int .i32 0, .int .i32 0, .int .i64 0, .int .i64 0, .int .i64 0, .int .i64 0, .bool false] 96)).alloc (.cells #[.int .i32 z.l, .int .i32 z.r] 21))
  clear hM h0 hR1 hR2
  rw [hk]
  have h1 := ((NdAt.new w ⟨z.l, z.r, z.c, z.s, z.mn, z.mx, true⟩).keep ((Keep.refl _).alloc (.cells #[.int .i32 0, .int .i32 0, .int .i64 0, .int .i64 0, .int .i64 0, .int .i64 0, .bool false] 96))).keep ((Keep.refl _).alloc (.cells #[.int .i32 z.l, .int .i32 z.r] 21))
  have h2' := (NdAt.new (w.alloc (.cells #[.int .i32 z.l, .int .i32 z.r, .int .i64 z.c, .int .i64 z.s, .int .i64 z.mn, .int .i64 z.mx, .bool true] 96)) Nd.zero).keep ((Keep.refl _).alloc (.cells #[.int .i32 z.l, .int .i32 z.r] 21))
  simp only [World.size_alloc] at h2'
  have h2 : NdAt (((w.alloc (.cells #[.int .i32 z.l, .int .i32 z.r, .int .i64 z.c, .int .i64 z.s, .int .i64 z.mn, .int .i64 z.mx, .bool true] 96)).alloc (.cells #[.int .i32 0, .int .i32 0, .int .i64 0, .int .i64 0, .int .i64 0, .int .i64 0, .bool false] 96)).alloc (.cells #[.int .i32 z.l, .int .i32 z.r] 21)) (w.heap.size + 1) Nd.zero := h2'
  clear h2'
  have h3 := World.alloc_heap_new ((w.alloc (.cells #[.int .i32 z.l, .int .i32 z.r, .int .i64 z.c, .int .i64 z.s, .int .i64 z.mn, .int .i64 z.mx, .bool true] 96)).alloc (.cells #[.int .i32 0, .int .i32 0, .int .i64 0, .int .i64 0, .int .i64 0, .int .i64 0, .bool false] 96)) (.cells #[.int .i32 z.l, .int .i32 z.r] 21)
  simp only [World.size_alloc] at h3
  have hs : (((w.alloc (.cells #[.int .i32 z.l, .int .i32 z.r, .int .i64 z.c, .int .i64 z.s, .int .i64 z.mn, .int .i64 z.mx, .bool true] 96)).alloc (.cells #[.int .i32 0, .int .i32 0, .int .i64 0, .int .i64 0, .int .i64 0, .int .i64 0, .bool false] 96)).alloc (.cells #[.int .i32 z.l, .int .i32 z.r] 21)).heap.size = w.heap.size + 1 + 1 + 1 := by simp
  have HB1 := Lib.hid h1
  have HB2 := Lib.hid h2
  have HB3 := Lib.hid h3
  have HSZ := Lib.hid hs
  clear h1 h2 h3 hs
  go_enter Try.func52, Try.ntmps52
  go_wp2_with fail
  generalize (((w.alloc (.cells #[.int .i32 z.l, .int .i32 z.r, .int .i64 z.c, .int .i64 z.s, .int .i64 z.mn, .int .i64 z.mx, .bool true] 96)).alloc (.cells #[.int .i32 0, .int .i32 0, .int .i64 0, .int .i64 0, .int .i64 0, .int .i64 0, .bool false] 96)).alloc (.cells #[.int .i32 z.l, .int .i32 z.r] 21)) = V at *
  have HP := Lib.hid (HM.out.keep HK3.out)
  have HKW := Lib.hid HM.out.keepW
  have HX := Lib.hid (show ∀ X, Only (fun k => ¬ (fun k => Pr k ∨ (w.heap.size ≤ k ∧ k < V.heap.size)) k) V X → NdAt X w.heap.size ⟨z.l, z.r, z.c, z.s, z.mn, z.mx, true⟩ ∧ NdAt X (w.heap.size + 1) Nd.zero ∧ X.cell? ⟨w.heap.size + 1 + 1, 0, none⟩ = some (.int .i32 z.l) ∧ X.cell? ⟨w.heap.size + 1 + 1, 1, none⟩ = some (.int .i32 z.r) from fun X ho => by
    have e3 := HSZ.out
    have eb : X.heap[w.heap.size + 1 + 1]? = V.heap[w.heap.size + 1 + 1]? := ho.block _ (by omega) (fun h => h (.inr ⟨by omega, by omega⟩))
    exact ⟨HB1.out.only ho (fun h => h (.inr ⟨by omega, by omega⟩)), HB2.out.only ho (fun h => h (.inr ⟨by omega, by omega⟩)), by simp [World.cell?, eb.trans HB3.out], by simp [World.cell?, eb.trans HB3.out]⟩)
  clear HB1 HB2 HB3 HM
  go_loopw [17] (fun i wr => ∃ k : Nat, k ≤ 2 ∧ i = .int .i64 k ∧ ∃ xs', P k xs' ∧ My w0 b lim xs' (fun k => Pr k ∨ (w.heap.size ≤ k ∧ k < V.heap.size)) wr ∧ Only (fun k => ¬ (fun k => Pr k ∨ (w.heap.size ≤ k ∧ k < V.heap.size)) k) V wr) (fun i _ => 2 - (intOf i).toNat)
  case atStart => exact ⟨0, by omega, rfl, xs, HP0.out, HP.out, Only.refl _ V⟩
  case round =>
    obtain ⟨k, hk2, rfl, xs', hp, hm, ho⟩ := hrel
    clear HP HP0
    obtain rfl | rfl | rfl : k = 0 ∨ k = 1 ∨ k = 2 := by omega
    · skip
      obtain ⟨y, ev, hN, hS⟩ := HR1.out _ hp
      have kl := killed_is y
      have HN := Lib.hid hN
      have HS := Lib.hid hS
      have HM' := Lib.hid hm
      have HO' := Lib.hid ho
      obtain ⟨-, -, s0, s1⟩ := HX.out _ ho
      clear hN hS hm ho hp
      go_wp2_with fail
      clear s0 s1
      have hKc := (Keep.refl wr).drew
      refine seq_region (S := fun _ => True) [⟨0, 1, 2097152⟩, ⟨1, 2097152, 4194304⟩, ⟨2, 4194304, 8388608⟩, ⟨0, 64, 16777216⟩, ⟨0, 1, 33554432⟩, ⟨0, 64, 67108864⟩, ⟨48, 100663296, 134217728⟩, ⟨64, 134217728, 268435456⟩, ⟨140, 293601280, 536870912⟩] [(0, false), (1, false), (2, false), (3, false), (4, false), (5, false), (6, true), (7, true), (8, true)] rfl (by kernel_rfl) (by kernel_rfl) (fun _ _ d _ _ h => by cases d <;> exact h) trivial ?_
      simp only [rowsOf, rowAt, gslot, List.map_cons, List.map_nil, List.getElem?_toArray, List.getElem?_cons_zero, List.getElem?_cons_succ]
      repeat (first
        | (refine seq_take (v := ?_) (a' := ?_) (by rfl) ?_ ?_ ?_
           rotate_left 2
           · (intro w hSw; go_simp; with_reducible rfl)
           · (simp only [Act.put, List.setIfInBounds_toArray, List.set_cons_zero, List.set_cons_succ]; with_reducible rfl)))
      refine seq_callR (R := fun w' => Keep wr w') (f := 55) (args := ?_) (v := ?_) (a' := ?_) (by rfl) (by rfl) (by rfl) Try.call55 ?_ ?_ ?_ ?_
      rotate_left 3
      · (go_simp; with_reducible rfl)
      · ((with_reducible refine (HN.out _ _ (HM'.out.kept hKc)).mono ?_)
         rintro e w' ⟨rfl, hk⟩
         refine ⟨?_, trivial, hKc.trans hk⟩
         with_reducible rfl)
      · (simp only [Act.put, List.setIfInBounds_toArray, List.set_cons_zero, List.set_cons_succ]; with_reducible rfl)
      clear hKc
      intro w2 hw2 hKc
      clear hw2
      repeat (first
        | (refine seq_take (v := ?_) (a' := ?_) (by rfl) ?_ ?_ ?_
           rotate_left 2
           · (intro w hSw; go_simp; with_reducible rfl)
           · (simp only [Act.put, List.setIfInBounds_toArray, List.set_cons_zero, List.set_cons_succ]; with_reducible rfl)))
      refine seq_callR (R := fun w' => Keep wr w') (f := 58) (args := ?_) (v := ?_) (a' := ?_) (by rfl) (by rfl) (by rfl) Try.call58 ?_ ?_ ?_ ?_
      rotate_left 3
      · (go_simp; with_reducible rfl)
      · ((with_reducible refine (kl _).mono ?_)
         rintro e w' ⟨rfl, hk⟩
         refine ⟨?_, trivial, hKc.trans hk⟩
         with_reducible rfl)
      · (simp only [Act.put, List.setIfInBounds_toArray, List.set_cons_zero, List.set_cons_succ]; with_reducible rfl)
      clear hKc
      intro w2 hw2 hKc
      clear hw2
      repeat (first
        | (refine seq_take (v := ?_) (a' := ?_) (by rfl) ?_ ?_ ?_
           rotate_left 2
           · (intro w hSw; go_simp; with_reducible rfl)
           · (simp only [Act.put, List.setIfInBounds_toArray, List.set_cons_zero, List.set_cons_succ]; with_reducible rfl)))
      refine seq_callR (R := fun w' => Turn w0 b lim (fun k => Pr k ∨ (w.heap.size ≤ k ∧ k < V.heap.size)) w2 (fun e xs' => P (0 + 1) xs') (.returned undef) w') (f := 50) (args := ?_) (v := ?_) (a' := ?_) (by rfl) (by rfl) (by rfl) Try.call50 ?_ ?_ ?_ ?_
      rotate_left 3
      · (go_simp; with_reducible rfl)
      · (refine (HS.out _ _ (HM'.out.kept hKc)).mono ?_
         rintro e w' ⟨xs3, ⟨rfl, hp3⟩, hm3, ho3⟩
         refine ⟨?_, trivial, xs3, hp3, hm3, ho3⟩
         with_reducible rfl)
      · (simp only [Act.put, List.setIfInBounds_toArray, List.set_cons_zero, List.set_cons_succ]; with_reducible rfl)
      intro w3 hw3 ⟨xs3, hp3, hm3, ho3⟩
      clear hw3
      refine seq_nil ?_
      have hO3 : Only (fun k => ¬ (fun k => Pr k ∨ (w.heap.size ≤ k ∧ k < V.heap.size)) k) V w3 := (HO'.out.trans (Only.of_keep (fun _ => False) hKc) (fun _ _ h => h.elim)).trans ho3 (fun _ _ h => h)
      have HP3 := Lib.hid hp3
      have HM3 := Lib.hid hm3
      have HO3 := Lib.hid hO3
      clear hp3 hm3 ho3 hO3 hKc
      go_wp2_with fail
      go_roundw
      case rel => exact ⟨0 + 1, by omega, by go_num, xs3, HP3.out, HM3.out, HO3.out⟩
      case measure => simp [intOf]
    · skip
      obtain ⟨y, ev, hN, hS⟩ := HR2.out _ hp
      have kl := killed_is y
      have HN := Lib.hid hN
      have HS := Lib.hid hS
      have HM' := Lib.hid hm
      have HO' := Lib.hid ho
      obtain ⟨-, -, s0, s1⟩ := HX.out _ ho
      clear hN hS hm ho hp
      go_wp2_with fail
      clear s0 s1
      have hKc := (Keep.refl wr).drew
      refine seq_region (S := fun _ => True) [⟨0, 1, 2097152⟩, ⟨1, 2097152, 4194304⟩, ⟨2, 4194304, 8388608⟩, ⟨0, 64, 16777216⟩, ⟨0, 1, 33554432⟩, ⟨0, 64, 67108864⟩, ⟨48, 100663296, 134217728⟩, ⟨64, 134217728, 268435456⟩, ⟨140, 293601280, 536870912⟩] [(0, false), (1, false), (2, false), (3, false), (4, false), (5, false), (6, true), (7, true), (8, true)] rfl (by kernel_rfl) (by kernel_rfl) (fun _ _ d _ _ h => by cases d <;> exact h) trivial ?_
      simp only [rowsOf, rowAt, gslot, List.map_cons, List.map_nil, List.getElem?_toArray, List.getElem?_cons_zero, List.getElem?_cons_succ]
      repeat (first
        | (refine seq_take (v := ?_) (a' := ?_) (by rfl) ?_ ?_ ?_
           rotate_left 2
           · (intro w hSw; go_simp; with_reducible rfl)
           · (simp only [Act.put, List.setIfInBounds_toArray, List.set_cons_zero, List.set_cons_succ]; with_reducible rfl)))
      refine seq_callR (R := fun w' => Keep wr w') (f := 55) (args := ?_) (v := ?_) (a' := ?_) (by rfl) (by rfl) (by rfl) Try.call55 ?_ ?_ ?_ ?_
      rotate_left 3
      · (go_simp; with_reducible rfl)
      · ((with_reducible refine (HN.out _ _ (HM'.out.kept hKc)).mono ?_)
         rintro e w' ⟨rfl, hk⟩
         refine ⟨?_, trivial, hKc.trans hk⟩
         with_reducible rfl)
      · (simp only [Act.put, List.setIfInBounds_toArray, List.set_cons_zero, List.set_cons_succ]; with_reducible rfl)
      clear hKc
      intro w2 hw2 hKc
      clear hw2
      repeat (first
        | (refine seq_take (v := ?_) (a' := ?_) (by rfl) ?_ ?_ ?_
           rotate_left 2
           · (intro w hSw; go_simp; with_reducible rfl)
           · (simp only [Act.put, List.setIfInBounds_toArray, List.set_cons_zero, List.set_cons_succ]; with_reducible rfl)))
      refine seq_callR (R := fun w' => Keep wr w') (f := 58) (args := ?_) (v := ?_) (a' := ?_) (by rfl) (by rfl) (by rfl) Try.call58 ?_ ?_ ?_ ?_
      rotate_left 3
      · (go_simp; with_reducible rfl)
      · ((with_reducible refine (kl _).mono ?_)
         rintro e w' ⟨rfl, hk⟩
         refine ⟨?_, trivial, hKc.trans hk⟩
         with_reducible rfl)
      · (simp only [Act.put, List.setIfInBounds_toArray, List.set_cons_zero, List.set_cons_succ]; with_reducible rfl)
      clear hKc
      intro w2 hw2 hKc
      clear hw2
      repeat (first
        | (refine seq_take (v := ?_) (a' := ?_) (by rfl) ?_ ?_ ?_
           rotate_left 2
           · (intro w hSw; go_simp; with_reducible rfl)
           · (simp only [Act.put, List.setIfInBounds_toArray, List.set_cons_zero, List.set_cons_succ]; with_reducible rfl)))
      refine seq_callR (R := fun w' => Turn w0 b lim (fun k => Pr k ∨ (w.heap.size ≤ k ∧ k < V.heap.size)) w2 (fun e xs' => P (1 + 1) xs') (.returned undef) w') (f := 50) (args := ?_) (v := ?_) (a' := ?_) (by rfl) (by rfl) (by rfl) Try.call50 ?_ ?_ ?_ ?_
      rotate_left 3
      · (go_simp; with_reducible rfl)
      · (refine (HS.out _ _ (HM'.out.kept hKc)).mono ?_
         rintro e w' ⟨xs3, ⟨rfl, hp3⟩, hm3, ho3⟩
         refine ⟨?_, trivial, xs3, hp3, hm3, ho3⟩
         with_reducible rfl)
      · (simp only [Act.put, List.setIfInBounds_toArray, List.set_cons_zero, List.set_cons_succ]; with_reducible rfl)
      intro w3 hw3 ⟨xs3, hp3, hm3, ho3⟩
      clear hw3
      refine seq_nil ?_
      have hO3 : Only (fun k => ¬ (fun k => Pr k ∨ (w.heap.size ≤ k ∧ k < V.heap.size)) k) V w3 := (HO'.out.trans (Only.of_keep (fun _ => False) hKc) (fun _ _ h => h.elim)).trans ho3 (fun _ _ h => h)
      have HP3 := Lib.hid hp3
      have HM3 := Lib.hid hm3
      have HO3 := Lib.hid hO3
      clear hp3 hm3 ho3 hO3 hKc
      go_wp2_with fail
      go_roundw
      case rel => exact ⟨1 + 1, by omega, by go_num, xs3, HP3.out, HM3.out, HO3.out⟩
      case measure => simp [intOf]
    · obtain ⟨q1, q2, -, -⟩ := HX.out _ ho
      obtain ⟨n0, n1, n2, n3, n4, n5, n6⟩ := q1.cells
      obtain ⟨c0, c1, c2, c3, c4, c5, c6⟩ := q2.cells0
      obtain ⟨f0, f1, f2, f3, f4, f5, f6⟩ := q2.free
      obtain ⟨g0, g1, g2, g3, g4, g5, g6⟩ := q1.free
      have l1 := q1.lt
      have l2 := q2.lt
      have HQ1 := Lib.hid q1
      have HQ2 := Lib.hid q2
      have HPP := Lib.hid hp
      have HMM := Lib.hid hm
      have HOO := Lib.hid ho
      clear q1 q2 hp hm ho
      go_wp2
      have e3 := HSZ.out
      have hs0 := HMM.out.keepW.size
      have hw0 := HKW.out.size
      have hO0 : Only (fun k => k = w.heap.size) wr (wr.setCell ⟨w.heap.size, 6, none⟩ (.bool false)) := (Only.refl _ wr).setCell _ _ rfl
      have hO1 : Only (fun k => k = w.heap.size ∨ k = w.heap.size + 1) wr (((((((((wr.setCell ⟨w.heap.size, 6, none⟩ (.bool false)).setCell ⟨w.heap.size + 1, 0, none⟩ (.int .i32 z.l)).setCell ⟨w.heap.size + 1, 1, none⟩ (.int .i32 z.r)).setCell ⟨w.heap.size + 1, 2, none⟩ (.int .i64 z.c)).setCell ⟨w.heap.size + 1, 3, none⟩ (.int .i64 z.s)).setCell ⟨w.heap.size + 1, 4, none⟩ (.int .i64 z.mn)).setCell ⟨w.heap.size + 1, 5, none⟩ (.int .i64 z.mx)).setCell ⟨w.heap.size + 1, 6, none⟩ (.bool false))) := set7_only (S := fun k => k = w.heap.size ∨ k = w.heap.size + 1) ((Only.refl _ wr).setCell _ _ (.inl rfl)) (.inr rfl) (⟨z.l, z.r, z.c, z.s, z.mn, z.mx, false⟩ : Nd)
      have hF : NdAt (((((((((wr.setCell ⟨w.heap.size, 6, none⟩ (.bool false)).setCell ⟨w.heap.size + 1, 0, none⟩ (.int .i32 z.l)).setCell ⟨w.heap.size + 1, 1, none⟩ (.int .i32 z.r)).setCell ⟨w.heap.size + 1, 2, none⟩ (.int .i64 z.c)).setCell ⟨w.heap.size + 1, 3, none⟩ (.int .i64 z.s)).setCell ⟨w.heap.size + 1, 4, none⟩ (.int .i64 z.mn)).setCell ⟨w.heap.size + 1, 5, none⟩ (.int .i64 z.mx)).setCell ⟨w.heap.size + 1, 6, none⟩ (.bool false))) (w.heap.size + 1) (⟨z.l, z.r, z.c, z.s, z.mn, z.mx, false⟩ : Nd) := (HQ2.out.only hO0 (by omega)).stored (⟨z.l, z.r, z.c, z.s, z.mn, z.mx, false⟩ : Nd)
      have hMF := HMM.out.only hO1 (fun k hk => ⟨.inr (by rcases hk with rfl | rfl <;> omega), by rcases hk with rfl | rfl <;> omega⟩)
      have hOF : Only (fun k => ¬ Pr k) w (((((((((wr.setCell ⟨w.heap.size, 6, none⟩ (.bool false)).setCell ⟨w.heap.size + 1, 0, none⟩ (.int .i32 z.l)).setCell ⟨w.heap.size + 1, 1, none⟩ (.int .i32 z.r)).setCell ⟨w.heap.size + 1, 2, none⟩ (.int .i64 z.c)).setCell ⟨w.heap.size + 1, 3, none⟩ (.int .i64 z.s)).setCell ⟨w.heap.size + 1, 4, none⟩ (.int .i64 z.mn)).setCell ⟨w.heap.size + 1, 5, none⟩ (.int .i64 z.mx)).setCell ⟨w.heap.size + 1, 6, none⟩ (.bool false))) := ((Only.of_keep (fun k => ¬ Pr k) HK3.out).trans HOO.out (fun k _ h hp => h (.inl hp))).trans hO1 (fun k hk h => by rcases h with rfl | rfl <;> omega)
      generalize ((((((((wr.setCell ⟨w.heap.size, 6, none⟩ (.bool false)).setCell ⟨w.heap.size + 1, 0, none⟩ (.int .i32 z.l)).setCell ⟨w.heap.size + 1, 1, none⟩ (.int .i32 z.r)).setCell ⟨w.heap.size + 1, 2, none⟩ (.int .i64 z.c)).setCell ⟨w.heap.size + 1, 3, none⟩ (.int .i64 z.s)).setCell ⟨w.heap.size + 1, 4, none⟩ (.int .i64 z.mn)).setCell ⟨w.heap.size + 1, 5, none⟩ (.int .i64 z.mx)).setCell ⟨w.heap.size + 1, 6, none⟩ (.bool false)) = WF at *
      obtain ⟨d0, d1, d2, d3, d4, d5, d6⟩ := hF.cells
      exact bodyPost_ret (v := .agg #[.int .i32 z.l, .int .i32 z.r, .int .i64 z.c, .int .i64 z.s, .int .i64 z.mn, .int .i64 z.mx, .bool false]) (by simp [results, Try.results52, go_sem, d0, d1, d2, d3, d4, d5, d6]) rfl ⟨xs', ⟨rfl, HPP.out⟩, hMF.mono (fun _ h => .inl h), hOF⟩
end Go.Proofs.Ytopengbflnoneaa
