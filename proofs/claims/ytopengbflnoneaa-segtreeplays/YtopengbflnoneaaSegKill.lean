/- segtree.kill: a span's keys below a node have no values any more. -/
import Derived.Test.YtopengbflnoneaaSegSet
namespace Go.Proofs.Ytopengbflnoneaa
open Go.RowKit

/-- What a call does to an arena of the caller's own. -/
def Turn (w0 : World) (b lim : Nat) (Pr : Nat → Prop) (w : World) (Q : Ending → List Nd → Prop) (e : Ending) (w' : World) : Prop :=
  ∃ xs, Q e xs ∧ My w0 b lim xs Pr w' ∧ Only (fun k => ¬ Pr k) w w'
theorem boxes2 (w : World) (lo hi p q : Int) : SpB ((w.alloc (.cells #[.int .u32 lo, .int .u32 hi] 36)).alloc (.cells #[.int .u32 p, .int .u32 q] 36)) w.heap.size lo hi ∧ SpB ((w.alloc (.cells #[.int .u32 lo, .int .u32 hi] 36)).alloc (.cells #[.int .u32 p, .int .u32 q] 36)) (w.heap.size + 1) p q := by
  have h1 := (SpB.new w lo hi).keep ((Keep.refl _).alloc (.cells #[.int .u32 p, .int .u32 q] 36))
  have h2 := SpB.new (w.alloc (.cells #[.int .u32 lo, .int .u32 hi] 36)) p q
  simp only [World.size_alloc] at h2
  exact ⟨h1, h2⟩
set_option maxRecDepth 100000 in
set_option maxHeartbeats 2000000 in
theorem kill_none {b : Nat} {i lo hi p q : Int} {z : Nd} {w : World} (hz : z.c = 0) (hN : ∀ W, Keep w W → Calls Try.prog 55 #[.pointer (some ⟨b, 0, none⟩), .int .i32 i] W fun e w' => e = .returned (.agg #[.int .i32 z.l, .int .i32 z.r, .int .i64 z.c, .int .i64 z.s, .int .i64 z.mn, .int .i64 z.mx, .bool z.k]) ∧ Keep W w') :
    Calls Try.prog 34 #[.pointer (some ⟨b, 0, none⟩), .int .i32 i, .agg #[.int .u32 lo, .int .u32 hi], .agg #[.int .u32 p, .int .u32 q]] w fun e w' => (∃ v, e = .returned v) ∧ Keep w w' := by
  have HK := Lib.hid (((Keep.refl w).alloc (.cells #[.int .u32 lo, .int .u32 hi] 36)).alloc (.cells #[.int .u32 p, .int .u32 q] 36))
  have HN := Lib.hid (hN _ HK.out)
  obtain ⟨hb1, hb2⟩ := boxes2 w lo hi p q
  have HB1 := Lib.hid hb1
  have HB2 := Lib.hid hb2
  clear hN hb1 hb2
  go_enter Try.func34, Try.ntmps34
  go_wp2_with fail
  generalize ((w.alloc (.cells #[.int .u32 lo, .int .u32 hi] 36)).alloc (.cells #[.int .u32 p, .int .u32 q] 36)) = W3 at *
  refine HN.out.mono ?_
  rintro e w1 ⟨rfl, hk1⟩
  have H1 := Lib.hid (HB1.out.keep hk1)
  have H2 := Lib.hid (HB2.out.keep hk1)
  have HK1 := Lib.hid (HK.out.trans hk1)
  have l1 := H1.out.lt
  have l2 := H2.out.lt
  clear hk1 HN HB1 HB2 HK
  obtain ⟨p0, p1⟩ := H1.out.cells
  obtain ⟨q0, q1⟩ := H2.out.cells
  have hzc : (z.c == 0) = true := by rw [beq_iff_eq]; exact hz
  have HKa := Lib.hid (HK1.out.alloc (.cells #[.int .i32 z.l, .int .i32 z.r, .int .i64 z.c, .int .i64 z.s, .int .i64 z.mn, .int .i64 z.mx, .bool z.k] 96))
  clear hz
  go_wp2
  go_wp2
  refine bodyPost_ret (results_none rfl _ _ _) rfl ?_
  exact ⟨⟨_, rfl⟩, HKa.out⟩
set_option maxRecDepth 100000 in
set_option maxHeartbeats 2000000 in
theorem kill_apart {b : Nat} {i lo hi p q : Int} {z : Nd} {w : World} (hz : z.c ≠ 0) (ha : decide (q < p ∨ hi < p ∨ q < lo) = true) (hN : ∀ W, Keep w W → Calls Try.prog 55 #[.pointer (some ⟨b, 0, none⟩), .int .i32 i] W fun e w' => e = .returned (.agg #[.int .i32 z.l, .int .i32 z.r, .int .i64 z.c, .int .i64 z.s, .int .i64 z.mn, .int .i64 z.mx, .bool z.k]) ∧ Keep W w') :
    Calls Try.prog 34 #[.pointer (some ⟨b, 0, none⟩), .int .i32 i, .agg #[.int .u32 lo, .int .u32 hi], .agg #[.int .u32 p, .int .u32 q]] w fun e w' => (∃ v, e = .returned v) ∧ Keep w w' := by
  have HA := Lib.hid ha
  clear ha
  have HK := Lib.hid (((Keep.refl w).alloc (.cells #[.int .u32 lo, .int .u32 hi] 36)).alloc (.cells #[.int .u32 p, .int .u32 q] 36))
  have HN := Lib.hid (hN _ HK.out)
  obtain ⟨hb1, hb2⟩ := boxes2 w lo hi p q
  have HB1 := Lib.hid hb1
  have HB2 := Lib.hid hb2
  clear hN hb1 hb2
  go_enter Try.func34, Try.ntmps34
  go_wp2_with fail
  generalize ((w.alloc (.cells #[.int .u32 lo, .int .u32 hi] 36)).alloc (.cells #[.int .u32 p, .int .u32 q] 36)) = W3 at *
  refine HN.out.mono ?_
  rintro e w1 ⟨rfl, hk1⟩
  have H1 := Lib.hid (HB1.out.keep hk1)
  have H2 := Lib.hid (HB2.out.keep hk1)
  have HK1 := Lib.hid (HK.out.trans hk1)
  have l1 := H1.out.lt
  have l2 := H2.out.lt
  clear hk1 HN HB1 HB2 HK
  obtain ⟨p0, p1⟩ := H1.out.cells
  obtain ⟨q0, q1⟩ := H2.out.cells
  have HZ := Lib.hid (NdAt.new w1 z)
  have HKa := Lib.hid ((Keep.refl w1).alloc (.cells #[.int .i32 z.l, .int .i32 z.r, .int .i64 z.c, .int .i64 z.s, .int .i64 z.mn, .int .i64 z.mx, .bool z.k] 96))
  have HLz := Lib.hid (show w.heap.size + 1 < w1.heap.size from H2.out.lt)
  have hzc : (z.c == 0) = false := by rw [beq_eq_false_iff_ne]; exact hz
  clear hz
  go_wp2_with fail
  generalize w1.alloc (.cells #[.int .i32 z.l, .int .i32 z.r, .int .i64 z.c, .int .i64 z.s, .int .i64 z.mn, .int .i64 z.mx, .bool z.k] 96) = V at *
  refine (apart_is lo hi p q true V HA.out).mono ?_
  rintro e w2 ⟨rfl, hk2⟩
  have hk12 := HKa.out.trans hk2
  have HZ' := Lib.hid (HZ.out.keep hk2)
  clear HZ
  have HZ := HZ'
  clear HZ'
  have H1' := Lib.hid (H1.out.keep hk12)
  have H2' := Lib.hid (H2.out.keep hk12)
  have HK1' := Lib.hid (HK1.out.trans hk12)
  clear  H1 H2 HK1 p0 p1 q0 q1
  have H1 := H1'
  clear H1'
  have H2 := H2'
  clear H2'
  have HK1 := HK1'
  clear HK1'
  obtain ⟨p0, p1⟩ := H1.out.cells
  obtain ⟨q0, q1⟩ := H2.out.cells
  obtain ⟨n0, n1, n2, n3, n4, n5, n6⟩ := HZ.out.cells
  clear HKa hk12 hk2
  go_wp2
  go_wp2
  refine bodyPost_ret (results_none rfl _ _ _) rfl ?_
  exact ⟨⟨_, rfl⟩, HK1.out⟩
set_option maxRecDepth 100000 in
set_option maxHeartbeats 2000000 in
theorem kill_within {w0 w : World} {b lim : Nat} {xs : List Nd} {Pr : Nat → Prop} {lo hi p q : Int} {z : Nd} (j : Nat) {i : Int} (hi1 : i = (j : Int) + 1) (hM : My w0 b lim xs Pr w) (hj : j < xs.length) (hz : z.c ≠ 0) (ha : decide (q < p ∨ hi < p ∨ q < lo) = false) (hi' : decide (p ≤ lo ∧ hi ≤ q) = true) (hN : ∀ W, Keep w W → Calls Try.prog 55 #[.pointer (some ⟨b, 0, none⟩), .int .i32 i] W fun e w' => e = .returned (.agg #[.int .i32 z.l, .int .i32 z.r, .int .i64 z.c, .int .i64 z.s, .int .i64 z.mn, .int .i64 z.mx, .bool z.k]) ∧ Keep W w') :
    Calls Try.prog 34 #[.pointer (some ⟨b, 0, none⟩), .int .i32 i, .agg #[.int .u32 lo, .int .u32 hi], .agg #[.int .u32 p, .int .u32 q]] w (Turn w0 b lim Pr w fun e xs' => (∃ v, e = .returned v) ∧ xs' = xs.set j (ndOf z.l z.r nil0 true)) := by
  have HA := Lib.hid ha
  have HI := Lib.hid hi'
  have HM := Lib.hid hM
  have HJ := Lib.hid hi1
  have HSET := Lib.hid (fun W Pr' (hm : My w0 b lim xs Pr' W) => my_set j (ndOf z.l z.r nil0 true) hm hj)
  have kl := killed_is z
  clear ha hi' hM hi1
  have HK := Lib.hid (((Keep.refl w).alloc (.cells #[.int .u32 lo, .int .u32 hi] 36)).alloc (.cells #[.int .u32 p, .int .u32 q] 36))
  have HN := Lib.hid (hN _ HK.out)
  obtain ⟨hb1, hb2⟩ := boxes2 w lo hi p q
  have HB1 := Lib.hid hb1
  have HB2 := Lib.hid hb2
  clear hN hb1 hb2
  go_enter Try.func34, Try.ntmps34
  go_wp2_with fail
  generalize ((w.alloc (.cells #[.int .u32 lo, .int .u32 hi] 36)).alloc (.cells #[.int .u32 p, .int .u32 q] 36)) = W3 at *
  refine HN.out.mono ?_
  rintro e w1 ⟨rfl, hk1⟩
  have H1 := Lib.hid (HB1.out.keep hk1)
  have H2 := Lib.hid (HB2.out.keep hk1)
  have HK1 := Lib.hid (HK.out.trans hk1)
  have l1 := H1.out.lt
  have l2 := H2.out.lt
  clear hk1 HN HB1 HB2 HK
  obtain ⟨p0, p1⟩ := H1.out.cells
  obtain ⟨q0, q1⟩ := H2.out.cells
  have HZ := Lib.hid (NdAt.new w1 z)
  have HKa := Lib.hid ((Keep.refl w1).alloc (.cells #[.int .i32 z.l, .int .i32 z.r, .int .i64 z.c, .int .i64 z.s, .int .i64 z.mn, .int .i64 z.mx, .bool z.k] 96))
  have HLz := Lib.hid (show w.heap.size + 1 < w1.heap.size from H2.out.lt)
  have hzc : (z.c == 0) = false := by rw [beq_eq_false_iff_ne]; exact hz
  clear hz
  go_wp2_with fail
  generalize w1.alloc (.cells #[.int .i32 z.l, .int .i32 z.r, .int .i64 z.c, .int .i64 z.s, .int .i64 z.mn, .int .i64 z.mx, .bool z.k] 96) = V at *
  refine (apart_is lo hi p q false V HA.out).mono ?_
  rintro e w2 ⟨rfl, hk2⟩
  have hk12 := HKa.out.trans hk2
  have HZ' := Lib.hid (HZ.out.keep hk2)
  clear HZ
  have HZ := HZ'
  clear HZ'
  have H1' := Lib.hid (H1.out.keep hk12)
  have H2' := Lib.hid (H2.out.keep hk12)
  have HK1' := Lib.hid (HK1.out.trans hk12)
  clear  H1 H2 HK1 p0 p1 q0 q1
  have H1 := H1'
  clear H1'
  have H2 := H2'
  clear H2'
  have HK1 := HK1'
  clear HK1'
  obtain ⟨p0, p1⟩ := H1.out.cells
  obtain ⟨q0, q1⟩ := H2.out.cells
  clear HKa hk12 hk2
  obtain ⟨n0, n1, n2, n3, n4, n5, n6⟩ := HZ.out.cells
  go_wp2_with fail
  refine (within_is lo hi p q true w2 HI.out).mono ?_
  rintro e w3 ⟨rfl, hk3⟩
  have H1' := Lib.hid (H1.out.keep hk3)
  have H2' := Lib.hid (H2.out.keep hk3)
  have HZ' := Lib.hid (HZ.out.keep hk3)
  have HK1' := Lib.hid (HK1.out.trans hk3)
  clear  H1 H2 HZ HK1 p0 p1 q0 q1 n0 n1 n2 n3 n4 n5 n6
  have H1 := H1'
  clear H1'
  have H2 := H2'
  clear H2'
  have HZ := HZ'
  clear HZ'
  have HK1 := HK1'
  clear HK1'
  obtain ⟨p0, p1⟩ := H1.out.cells
  obtain ⟨q0, q1⟩ := H2.out.cells
  obtain ⟨n0, n1, n2, n3, n4, n5, n6⟩ := HZ.out.cells
  clear hk3
  clear HA HI
  go_wp2_with fail
  have HP := Lib.hid (HM.out.keep HK1.out)
  have HO3 := Lib.hid (Only.of_keep (fun k => ¬ Pr k) HK1.out)
  have HLz3 := Lib.hid (show w1.heap.size < w3.heap.size from HZ.out.lt)
  have HC := Lib.hid (show ∀ w', Only (fun k => ¬ (fun k => Pr k ∨ (w.heap.size ≤ k ∧ k < w3.heap.size)) k) w3 w' → True ∧ (w'.cell? ⟨w1.heap.size, 0, none⟩ = some (.int .i32 z.l) ∧ w'.cell? ⟨w1.heap.size, 1, none⟩ = some (.int .i32 z.r) ∧ w'.cell? ⟨w1.heap.size, 2, none⟩ = some (.int .i64 z.c) ∧ w'.cell? ⟨w1.heap.size, 3, none⟩ = some (.int .i64 z.s) ∧ w'.cell? ⟨w1.heap.size, 4, none⟩ = some (.int .i64 z.mn) ∧ w'.cell? ⟨w1.heap.size, 5, none⟩ = some (.int .i64 z.mx) ∧ w'.cell? ⟨w1.heap.size, 6, none⟩ = some (.bool z.k)) from fun w' ho => ⟨trivial, (HZ.out.only ho (fun h => h (.inr ⟨by have := HLz.out; omega, HLz3.out⟩))).cells⟩)
  clear H1 H2 HZ HK1 HM p0 p1 q0 q1 n0 n1 n2 n3 n4 n5 n6 l1 l2
  have hKc := (Keep.refl w3).drew
  refine seq_region (S := fun w' => True ∧ (w'.cell? ⟨w1.heap.size, 0, none⟩ = some (.int .i32 z.l) ∧ w'.cell? ⟨w1.heap.size, 1, none⟩ = some (.int .i32 z.r) ∧ w'.cell? ⟨w1.heap.size, 2, none⟩ = some (.int .i64 z.c) ∧ w'.cell? ⟨w1.heap.size, 3, none⟩ = some (.int .i64 z.s) ∧ w'.cell? ⟨w1.heap.size, 4, none⟩ = some (.int .i64 z.mn) ∧ w'.cell? ⟨w1.heap.size, 5, none⟩ = some (.int .i64 z.mx) ∧ w'.cell? ⟨w1.heap.size, 6, none⟩ = some (.bool z.k))) [⟨0, 1, 268435456⟩, ⟨1, 268435456, 536870912⟩, ⟨2, 536870912, 1073741824⟩, ⟨0, 2, 2147483648⟩, ⟨0, 256, 4294967296⟩, ⟨16, 4294967296, 8589934592⟩, ⟨44, 11811160064, 17179869184⟩] [(0, false), (1, false), (2, false), (3, false), (4, false), (5, true), (6, true)] rfl (by kernel_rfl) (by kernel_rfl) (fun _ _ d _ _ h => by cases d <;> exact h) (HC.out _ (Only.of_keep _ hKc)) ?_
  simp only [rowsOf, rowAt, gslot, List.map_cons, List.map_nil, List.getElem?_toArray, List.getElem?_cons_zero, List.getElem?_cons_succ]
  repeat (first
    | (refine seq_take (v := ?_) (a' := ?_) (by rfl) ?_ ?_ ?_
       rotate_left 2
       · (intro w hSw; obtain ⟨-, hSw⟩ := hSw; go_split_ands; go_simp; with_reducible rfl)
       · (simp only [Act.put, List.setIfInBounds_toArray, List.set_cons_zero, List.set_cons_succ]; with_reducible rfl)))
  refine seq_callR (R := fun w' => Keep w3 w') (f := 58) (args := ?_) (v := ?_) (a' := ?_) (by rfl) (by rfl) (by rfl) Try.call58 ?_ ?_ ?_ ?_
  rotate_left 3
  · (go_simp; with_reducible rfl)
  · ((with_reducible refine (kl _).mono ?_)
     rintro e w' ⟨rfl, hk⟩
     refine ⟨?_, HC.out _ (Only.of_keep _ (hKc.trans hk)), hKc.trans hk⟩
     with_reducible rfl)
  · (simp only [Act.put, List.setIfInBounds_toArray, List.set_cons_zero, List.set_cons_succ]; with_reducible rfl)
  clear hKc
  intro w4 hw4 hKc
  clear hw4
  repeat (first
    | (refine seq_take (v := ?_) (a' := ?_) (by rfl) ?_ ?_ ?_
       rotate_left 2
       · (intro w hSw; obtain ⟨-, hSw⟩ := hSw; go_split_ands; go_simp; with_reducible rfl)
       · (simp only [Act.put, List.setIfInBounds_toArray, List.set_cons_zero, List.set_cons_succ]; with_reducible rfl)))
  refine seq_callR (R := fun w' => My w0 b lim (xs.set j (ndOf z.l z.r nil0 true)) (fun k => Pr k ∨ (w.heap.size ≤ k ∧ k < w3.heap.size)) w' ∧ Only (fun k => ¬ (fun k => Pr k ∨ (w.heap.size ≤ k ∧ k < w3.heap.size)) k) w4 w') (f := 50) (args := ?_) (v := ?_) (a' := ?_) (by rfl) (by rfl) (by rfl) Try.call50 ?_ ?_ ?_ ?_
  rotate_left 3
  · (go_simp; with_reducible rfl)
  · (rw [HJ.out]
     refine (HSET.out _ _ (HP.out.kept hKc)).mono ?_
     rintro e w' ⟨rfl, hm, ho⟩
     refine ⟨?_, HC.out _ ((Only.of_keep _ hKc).trans ho (fun _ _ h => h)), hm, ho⟩
     with_reducible rfl)
  · (simp only [Act.put, List.setIfInBounds_toArray, List.set_cons_zero, List.set_cons_succ]; with_reducible rfl)
  intro w' hw2 ⟨hm, ho⟩
  clear hw2
  refine seq_nil ?_
  go_wp2
  refine bodyPost_ret (results_none rfl _ _ _) rfl ?_
  exact ⟨_, ⟨⟨_, rfl⟩, rfl⟩, hm.mono (fun _ h => .inl h), (HO3.out.trans (Only.of_keep (fun _ => False) hKc) (fun _ _ h => h.elim)).trans ho (fun k _ hk hp => hk (.inl hp))⟩
set_option maxRecDepth 100000 in
set_option maxHeartbeats 2000000 in
theorem kill_both {w0 w : World} {b lim : Nat} {xs : List Nd} {Pr : Nat → Prop} {i lo hi p q mid : Int} {z : Nd} {P1 P2 P3 : List Nd → Prop} (hM : My w0 b lim xs Pr w) (hz : z.c ≠ 0) (ha : decide (q < p ∨ hi < p ∨ q < lo) = false) (hi' : decide (p ≤ lo ∧ hi ≤ q) = false) (h0 : 0 ≤ lo) (h1 : lo < hi) (h2 : hi ≤ 4294967295) (hm : lo + (hi - lo) / 2 = mid) (hN : ∀ W, Keep w W → Calls Try.prog 55 #[.pointer (some ⟨b, 0, none⟩), .int .i32 i] W fun e w' => e = .returned (.agg #[.int .i32 z.l, .int .i32 z.r, .int .i64 z.c, .int .i64 z.s, .int .i64 z.mn, .int .i64 z.mx, .bool z.k]) ∧ Keep W w')
    (hL : ∀ Pr' W, My w0 b lim xs Pr' W → Calls Try.prog 34 #[.pointer (some ⟨b, 0, none⟩), .int .i32 z.l, .agg #[.int .u32 lo, .int .u32 mid], .agg #[.int .u32 p, .int .u32 q]] W (Turn w0 b lim Pr' W fun e xs' => (∃ v, e = .returned v) ∧ P1 xs'))
    (hR : ∀ Pr' W xs1, P1 xs1 → My w0 b lim xs1 Pr' W → Calls Try.prog 34 #[.pointer (some ⟨b, 0, none⟩), .int .i32 z.r, .agg #[.int .u32 (mid + 1), .int .u32 hi], .agg #[.int .u32 p, .int .u32 q]] W (Turn w0 b lim Pr' W fun e xs' => (∃ v, e = .returned v) ∧ P2 xs'))
    (hS : ∀ Pr' W xs2, P2 xs2 → My w0 b lim xs2 Pr' W → Calls Try.prog 54 #[.pointer (some ⟨b, 0, none⟩), .int .i32 i, .agg #[.int .i32 z.l, .int .i32 z.r, .int .i64 z.c, .int .i64 z.s, .int .i64 z.mn, .int .i64 z.mx, .bool z.k]] W (Turn w0 b lim Pr' W fun e xs' => (∃ v, e = .returned v) ∧ P3 xs')) :
    Calls Try.prog 34 #[.pointer (some ⟨b, 0, none⟩), .int .i32 i, .agg #[.int .u32 lo, .int .u32 hi], .agg #[.int .u32 p, .int .u32 q]] w (Turn w0 b lim Pr w fun e xs' => (∃ v, e = .returned v) ∧ P3 xs') := by
  have HA := Lib.hid ha
  have HI := Lib.hid hi'
  have HM := Lib.hid hM
  have HL := Lib.hid hL
  have HR := Lib.hid hR
  have HS := Lib.hid hS
  have HH := Lib.hid (fun W => halves_is lo hi mid W h0 h1 h2 hm)
  clear ha hi' hM hL hR hS hm
  have HK := Lib.hid (((Keep.refl w).alloc (.cells #[.int .u32 lo, .int .u32 hi] 36)).alloc (.cells #[.int .u32 p, .int .u32 q] 36))
  have HN := Lib.hid (hN _ HK.out)
  obtain ⟨hb1, hb2⟩ := boxes2 w lo hi p q
  have HB1 := Lib.hid hb1
  have HB2 := Lib.hid hb2
  clear hN hb1 hb2
  go_enter Try.func34, Try.ntmps34
  go_wp2_with fail
  generalize ((w.alloc (.cells #[.int .u32 lo, .int .u32 hi] 36)).alloc (.cells #[.int .u32 p, .int .u32 q] 36)) = W3 at *
  refine HN.out.mono ?_
  rintro e w1 ⟨rfl, hk1⟩
  have H1 := Lib.hid (HB1.out.keep hk1)
  have H2 := Lib.hid (HB2.out.keep hk1)
  have HK1 := Lib.hid (HK.out.trans hk1)
  have l1 := H1.out.lt
  have l2 := H2.out.lt
  clear hk1 HN HB1 HB2 HK
  obtain ⟨p0, p1⟩ := H1.out.cells
  obtain ⟨q0, q1⟩ := H2.out.cells
  have HZ := Lib.hid (NdAt.new w1 z)
  have HKa := Lib.hid ((Keep.refl w1).alloc (.cells #[.int .i32 z.l, .int .i32 z.r, .int .i64 z.c, .int .i64 z.s, .int .i64 z.mn, .int .i64 z.mx, .bool z.k] 96))
  have HLz := Lib.hid (show w.heap.size + 1 < w1.heap.size from H2.out.lt)
  have hzc : (z.c == 0) = false := by rw [beq_eq_false_iff_ne]; exact hz
  clear hz
  go_wp2_with fail
  generalize w1.alloc (.cells #[.int .i32 z.l, .int .i32 z.r, .int .i64 z.c, .int .i64 z.s, .int .i64 z.mn, .int .i64 z.mx, .bool z.k] 96) = V at *
  refine (apart_is lo hi p q false V HA.out).mono ?_
  rintro e w2 ⟨rfl, hk2⟩
  have hk12 := HKa.out.trans hk2
  have HZ' := Lib.hid (HZ.out.keep hk2)
  clear HZ
  have HZ := HZ'
  clear HZ'
  have H1' := Lib.hid (H1.out.keep hk12)
  have H2' := Lib.hid (H2.out.keep hk12)
  have HK1' := Lib.hid (HK1.out.trans hk12)
  clear  H1 H2 HK1 p0 p1 q0 q1
  have H1 := H1'
  clear H1'
  have H2 := H2'
  clear H2'
  have HK1 := HK1'
  clear HK1'
  obtain ⟨p0, p1⟩ := H1.out.cells
  obtain ⟨q0, q1⟩ := H2.out.cells
  clear HKa hk12 hk2
  obtain ⟨n0, n1, n2, n3, n4, n5, n6⟩ := HZ.out.cells
  go_wp2_with fail
  refine (within_is lo hi p q false w2 HI.out).mono ?_
  rintro e w3 ⟨rfl, hk3⟩
  have H1' := Lib.hid (H1.out.keep hk3)
  have H2' := Lib.hid (H2.out.keep hk3)
  have HZ' := Lib.hid (HZ.out.keep hk3)
  have HK1' := Lib.hid (HK1.out.trans hk3)
  clear  H1 H2 HZ HK1 p0 p1 q0 q1 n0 n1 n2 n3 n4 n5 n6
  have H1 := H1'
  clear H1'
  have H2 := H2'
  clear H2'
  have HZ := HZ'
  clear HZ'
  have HK1 := HK1'
  clear HK1'
  obtain ⟨p0, p1⟩ := H1.out.cells
  obtain ⟨q0, q1⟩ := H2.out.cells
  obtain ⟨n0, n1, n2, n3, n4, n5, n6⟩ := HZ.out.cells
  clear hk3
  clear HA HI
  go_wp2_with fail
  refine (HH.out w3).mono ?_
  rintro e w4 ⟨rfl, hk4⟩
  have HK4 := Lib.hid (hk4.alloc (.cells #[.int .u32 lo, .int .u32 mid] 36) |>.alloc (.cells #[.int .u32 (mid + 1), .int .u32 hi] 36))
  have hs1 := (SpB.new w4 lo mid).keep ((Keep.refl _).alloc (.cells #[.int .u32 (mid + 1), .int .u32 hi] 36))
  have hs2 := SpB.new (w4.alloc (.cells #[.int .u32 lo, .int .u32 mid] 36)) (mid + 1) hi
  simp only [World.size_alloc] at hs2
  have HS1 := Lib.hid hs1
  have HS2 := Lib.hid hs2
  have HW4 := Lib.hid (show w.heap.size ≤ w4.heap.size from Nat.le_trans HK1.out.size hk4.size)
  clear p0 p1 q0 q1 n0 n1 n2 n3 n4 n5 n6
  obtain ⟨q0, q1⟩ := (H2.out.keep hk4).cells
  obtain ⟨n0, n1, n2, n3, n4, n5, n6⟩ := (HZ.out.keep hk4).cells
  have l2' := (H2.out.keep hk4).lt
  have l0' : w.heap.size < w4.heap.size := Nat.lt_of_succ_lt l2'
  have l0n : ¬ w.heap.size = w4.heap.size := Nat.ne_of_lt l0'
  have lz' := (HZ.out.keep hk4).lt
  clear hk4 hs1 hs2
  go_wp2_with fail
  clear q0 q1 n0 n1 n2 n3 n4 n5 n6 l2' lz' l0' l0n
  generalize (w4.alloc (.cells #[.int .u32 lo, .int .u32 mid] 36)).alloc (.cells #[.int .u32 (mid + 1), .int .u32 hi] 36) = V4 at *
  have HP := Lib.hid (HM.out.keep (HK1.out.trans HK4.out))
  have HO4 := Lib.hid (Only.of_keep (fun k => ¬ Pr k) (HK1.out.trans HK4.out))
  have HX := Lib.hid (show ∀ X, Only (fun k => ¬ (fun k => Pr k ∨ (w.heap.size ≤ k ∧ k < V4.heap.size)) k) V4 X → SpB X w4.heap.size lo mid ∧ SpB X (w4.heap.size + 1) (mid + 1) hi ∧ SpB X (w.heap.size + 1) p q ∧ NdAt X w1.heap.size z from fun X ho =>
    ⟨HS1.out.only ho (fun h => h (.inr ⟨HW4.out, HS1.out.lt⟩)), HS2.out.only ho (fun h => h (.inr ⟨by have := HW4.out; omega, HS2.out.lt⟩)), (H2.out.keep HK4.out).only ho (fun h => h (.inr ⟨by omega, (H2.out.keep HK4.out).lt⟩)), (HZ.out.keep HK4.out).only ho (fun h => h (.inr ⟨by have := HLz.out; omega, (HZ.out.keep HK4.out).lt⟩))⟩)
  clear H1 H2 HZ HS1 HS2 HK4 HM HK1 l1 l2 HLz HW4
  refine (HL.out _ _ HP.out).mono ?_
  rintro e w5 ⟨xs1, ⟨⟨v5, rfl⟩, hp1⟩, hm5, ho5⟩
  have HP5 := Lib.hid hp1
  have HM5 := Lib.hid hm5
  have HO5 := Lib.hid ho5
  obtain ⟨hx1, hx2, hx3, hx4⟩ := HX.out _ ho5
  obtain ⟨r0, r1⟩ := hx2.cells
  obtain ⟨q0, q1⟩ := hx3.cells
  obtain ⟨n0, n1, n2, n3, n4, n5, n6⟩ := hx4.cells
  clear hp1 hm5 ho5 hx1 hx2 hx3 hx4
  go_wp2_with fail
  clear r0 r1 q0 q1 n0 n1 n2 n3 n4 n5 n6
  refine (HR.out _ _ _ HP5.out HM5.out).mono ?_
  rintro e w6 ⟨xs2, ⟨⟨v6, rfl⟩, hp2⟩, hm6, ho6⟩
  have HP6 := Lib.hid hp2
  have HM6 := Lib.hid hm6
  have HO6 := Lib.hid (HO5.out.trans ho6 (fun _ _ h => h))
  obtain ⟨hx1, hx2, hx3, hx4⟩ := HX.out _ HO6.out
  obtain ⟨n0, n1, n2, n3, n4, n5, n6⟩ := hx4.cells
  clear hp2 hm6 ho6 hx1 hx2 hx3 hx4
  go_wp2_with fail
  clear n0 n1 n2 n3 n4 n5 n6
  refine (HS.out _ _ _ HP6.out HM6.out).mono ?_
  rintro e w7 ⟨xs3, ⟨⟨v7, rfl⟩, hp3⟩, hm7, ho7⟩
  have HP7 := Lib.hid hp3
  have HM7 := Lib.hid hm7
  have HO7 := Lib.hid (HO6.out.trans ho7 (fun _ _ h => h))
  clear hp3 hm7 ho7
  go_wp2
  go_end0
  exact ⟨xs3, ⟨⟨_, rfl⟩, HP7.out⟩, HM7.out.mono (fun _ h => .inl h), HO4.out.trans HO7.out (fun k _ hk hp => hk (.inl hp))⟩
end Go.Proofs.Ytopengbflnoneaa
