/- segtree.put: a key has a value, with new nodes where there are none. -/
import Derived.Test.YtopengbflnoneaaSegDown
namespace Go.Proofs.Ytopengbflnoneaa
open Go.RowKit

/-- Blocks of Pr, and what was made from w on up to nb. -/
def Up (Pr : Nat → Prop) (w : World) (nb : Nat) (k : Nat) : Prop := Pr k ∨ (w.heap.size ≤ k ∧ k ≤ nb)
/-- On the way from w to X the arena has come to xs. -/
structure On (w0 : World) (b lim : Nat) (Pr : Nat → Prop) (w : World) (nb : Nat) (xs : List Nd) (X : World) : Prop where
  my : My w0 b lim xs (Up Pr w nb) X
  only : Only (fun k => ¬ Pr k) w X
  le : w.heap.size ≤ nb
  base : w0.heap.size ≤ w.heap.size
section
variable {w0 w X X' : World} {b lim nb : Nat} {Pr : Nat → Prop} {xs : List Nd}
theorem On.start (hM : My w0 b lim xs Pr w) (hk : Keep w X) (h1 : w.heap.size ≤ nb) (h2 : nb < X.heap.size) : On w0 b lim Pr w nb xs X :=
  ⟨(hM.keep hk).mono (fun k h => by rcases h with h | h; exact .inl h; exact .inr ⟨h.1, by omega⟩), Only.of_keep _ hk, h1, hM.keepW.size⟩
theorem On.keep (h : On w0 b lim Pr w nb xs X) (hk : Keep X X') : On w0 b lim Pr w nb xs X' :=
  ⟨h.my.kept hk, h.only.trans (Only.of_keep (fun _ => False) hk) (fun _ _ h => h.elim), h.le, h.base⟩
theorem On.turn (h : On w0 b lim Pr w nb xs X) {Q : Ending → List Nd → Prop} {e : Ending} (ht : Turn w0 b lim (Up Pr w nb) X Q e X') : ∃ xs', Q e xs' ∧ On w0 b lim Pr w nb xs' X' ∧ Only (fun k => ¬ Up Pr w nb k) X X' := by
  obtain ⟨xs', h1, h2, h3⟩ := ht
  exact ⟨xs', h1, ⟨h2, h.only.trans h3 (fun k _ hk hp => hk (.inl hp)), h.le, h.base⟩, h3⟩
theorem On.store (h : On w0 b lim Pr w nb xs X) (ho : Only (fun k => k = nb) X X') : On w0 b lim Pr w nb xs X' :=
  ⟨h.my.only ho (fun k hk => by subst hk; exact ⟨.inr ⟨h.le, Nat.le_refl _⟩, Nat.le_trans h.base h.le⟩), h.only.trans ho (fun k hk e => by have := h.le; omega), h.le, h.base⟩
theorem On.fin (h : On w0 b lim Pr w nb xs X) {Q : Ending → List Nd → Prop} {e : Ending} (hQ : Q e xs) : Turn w0 b lim Pr w Q e X := ⟨xs, hQ, h.my.mono (fun _ h => .inl h), h.only⟩
end
theorem NdAt.left {w : World} {b : Nat} {z : Nd} (h : NdAt w b z) (i : Int) : NdAt (w.setCell ⟨b, 0, none⟩ (.int .i32 i)) b ⟨i, z.r, z.c, z.s, z.mn, z.mx, z.k⟩ := by
  have hb := h.lt
  unfold NdAt at *
  simp only [World.setCell, Array.getElem?_modify, h, if_true, Option.map_some]
  rfl
theorem NdAt.right {w : World} {b : Nat} {z : Nd} (h : NdAt w b z) (i : Int) : NdAt (w.setCell ⟨b, 1, none⟩ (.int .i32 i)) b ⟨z.l, i, z.c, z.s, z.mn, z.mx, z.k⟩ := by
  have hb := h.lt
  unfold NdAt at *
  simp only [World.setCell, Array.getElem?_modify, h, if_true, Option.map_some]
  rfl
set_option maxRecDepth 100000 in
set_option maxHeartbeats 2000000 in
theorem put_got_leaf {w0 w : World} {b lim : Nat} {xs : List Nd} {Pr : Nat → Prop} {lo hi key v i : Int} (hM : My w0 b lim xs Pr w) {z : Nd} (j : Nat) (hz : xs[j]? = some z) (hi1 : i = (j : Int) + 1) (hl : lo = hi) (hv : inI v)  :
    Calls Try.prog 32 #[.pointer (some ⟨b, 0, none⟩), .int .i32 i, .agg #[.int .u32 lo, .int .u32 hi], .int .u32 key, .int .i64 v] w (Turn w0 b lim Pr w fun e xs' => e = .returned (.int .i32 ((j : Nat) + 1 : Int)) ∧ xs' = xs.set j (ndOf 0 0 (one1 v) false)) := by
  have HM := Lib.hid hM
  have HKs := Lib.hid ((Keep.refl w).alloc (.cells #[.int .u32 lo, .int .u32 hi] 36))
  have HB := Lib.hid (SpB.new w lo hi)
  have HZ := Lib.hid hz
  have hi0 : 1 ≤ i := by omega
  subst hi1
  clear hz
  clear hM
  have HV := Lib.hid hv
  have HSI := Lib.hid (fun W => single_is lo hi true W (by rw [hl]; exact beq_self_eq_true hi))
  clear hv hl
  go_enter Try.func32, Try.ntmps32
  go_wp2_with fail
  generalize w.alloc (.cells #[.int .u32 lo, .int .u32 hi] 36) = V0 at *
  refine (my_get j z (HM.out.kept HKs.out) HZ.out).mono ?_
  rintro e w1 ⟨rfl, hk1⟩
  have HKn := Lib.hid ((HKs.out.trans hk1).alloc (.cells #[.int .i32 z.l, .int .i32 z.r, .int .i64 z.c, .int .i64 z.s, .int .i64 z.mn, .int .i64 z.mx, .bool z.k] 96))
  have HN := Lib.hid (show NdAt (w1.alloc (.cells #[.int .i32 z.l, .int .i32 z.r, .int .i64 z.c, .int .i64 z.s, .int .i64 z.mn, .int .i64 z.mx, .bool z.k] 96)) w1.heap.size z from NdAt.new w1 z)
  have HB1 := Lib.hid (HB.out.keep hk1)
  have HKV1 := Lib.hid ((Keep.refl w1).alloc (.cells #[.int .i32 z.l, .int .i32 z.r, .int .i64 z.c, .int .i64 z.s, .int .i64 z.mn, .int .i64 z.mx, .bool z.k] 96))
  have HLw := Lib.hid (show w.heap.size < w1.heap.size from HB1.out.lt)
  obtain ⟨p0, p1⟩ := HB1.out.cells
  have l1 := HB1.out.lt
  clear hk1 HB
  go_wp2_with fail
  generalize w1.alloc (.cells #[.int .i32 z.l, .int .i32 z.r, .int .i64 z.c, .int .i64 z.s, .int .i64 z.mn, .int .i64 z.mx, .bool z.k] 96) = V1 at *
  clear p0 p1 l1
  have HB2 := Lib.hid (show SpB V1 w.heap.size lo hi from HB1.out.keep HKV1.out)
  have HON := Lib.hid (On.start HM.out HKn.out (Nat.le_of_lt HLw.out) HN.out.lt)
  clear HM HKn HKs HKV1 HB1
  refine (HSI.out V1).mono ?_
  rintro e w3 ⟨rfl, hk3⟩
  have HON3 := Lib.hid (HON.out.keep hk3)
  have HN3 := Lib.hid (HN.out.keep hk3)
  have HB3 := Lib.hid (HB2.out.keep hk3)
  clear hk3 HON HN HB2
  go_wp2_with fail
  have hKc := (Keep.refl w3).drew
  have HSET := Lib.hid (fun W (hm : My w0 b lim xs (Up Pr w w1.heap.size) W) => my_set j (ndOf 0 0 (one1 v) false) hm ((List.getElem?_eq_some_iff.1 HZ.out).1))
  refine seq_region (S := fun _ => True) [⟨0, 1, 17179869184⟩, ⟨1, 17179869184, 34359738368⟩, ⟨2, 34359738368, 68719476736⟩, ⟨0, 2, 137438953472⟩, ⟨0, 16, 274877906944⟩, ⟨16, 274877906944, 549755813888⟩, ⟨32, 549755813888, 1099511627776⟩, ⟨108, 1305670057984, 2199023255552⟩] [(0, false), (1, false), (2, false), (3, false), (4, false), (5, true), (6, false), (7, true)] rfl (by kernel_rfl) (by kernel_rfl) (fun _ _ d _ _ h => by cases d <;> exact h) trivial ?_
  simp only [rowsOf, rowAt, gslot, List.map_cons, List.map_nil, List.getElem?_toArray, List.getElem?_cons_zero, List.getElem?_cons_succ]
  repeat (first
    | (refine seq_take (v := ?_) (a' := ?_) (by rfl) ?_ ?_ ?_
       rotate_left 2
       · (intro w hSw; go_simp; with_reducible rfl)
       · (simp only [Act.put, List.setIfInBounds_toArray, List.set_cons_zero, List.set_cons_succ]; with_reducible rfl)))
  refine seq_callR (R := fun w' => Keep w3 w') (f := 51) (args := ?_) (v := ?_) (a' := ?_) (by rfl) (by rfl) (by rfl) Try.call51 ?_ ?_ ?_ ?_
  rotate_left 3
  · (go_simp; with_reducible rfl)
  · ((with_reducible refine (one_any v _).mono ?_)
     rintro e w' ⟨rfl, hk⟩
     refine ⟨?_, trivial, hKc.trans hk⟩
     with_reducible rfl)
  · (simp only [Act.put, List.setIfInBounds_toArray, List.set_cons_zero, List.set_cons_succ]; with_reducible rfl)
  clear hKc
  intro w4 hw4 hKc
  clear hw4
  repeat (first
    | (refine seq_take (v := ?_) (a' := ?_) (by rfl) ?_ ?_ ?_
       rotate_left 2
       · (intro w hSw; go_simp; with_reducible rfl)
       · (simp only [Act.put, List.setIfInBounds_toArray, List.set_cons_zero, List.set_cons_succ]; with_reducible rfl)))
  refine seq_callR (R := fun w' => Turn w0 b lim (Up Pr w w1.heap.size) w4 (fun _ xs' => xs' = xs.set j (ndOf 0 0 (one1 v) false)) (.returned undef) w') (f := 50) (args := ?_) (v := ?_) (a' := ?_) (by rfl) (by rfl) (by rfl) Try.call50 ?_ ?_ ?_ ?_
  rotate_left 3
  · (go_simp; with_reducible rfl)
  · (refine (HSET.out _ (HON3.out.keep hKc).my).mono ?_
     rintro e w' ⟨rfl, hm, ho⟩
     refine ⟨?_, trivial, _, rfl, hm, ho⟩
     with_reducible rfl)
  · (simp only [Act.put, List.setIfInBounds_toArray, List.set_cons_zero, List.set_cons_succ]; with_reducible rfl)
  intro w' hw2 ht
  clear hw2
  obtain ⟨xs2, rfl, hon5, ho5⟩ := (HON3.out.keep hKc).turn ht
  have HON5 := Lib.hid hon5
  clear ht ho5 hon5 hKc
  refine seq_nil ?_
  go_wp2
  go_ret
  exact HON5.out.fin ⟨rfl, rfl⟩
set_option maxRecDepth 100000 in
set_option maxHeartbeats 2000000 in
theorem put_got_left {w0 w : World} {b lim : Nat} {xs : List Nd} {Pr : Nat → Prop} {lo hi key v i : Int} (hM : My w0 b lim xs Pr w) {z : Nd} (j : Nat) (hz : xs[j]? = some z) (hi1 : i = (j : Int) + 1) {mid i2 : Int} {z2 : Nd} {P1 P2 P3 : List Nd → Prop} (h0 : 0 ≤ lo) (h1 : lo < hi) (h2 : hi ≤ 4294967295) (hm : lo + (hi - lo) / 2 = mid) (hk : key < mid + 1) 
    (hD : ∀ Pr' W, My w0 b lim xs Pr' W → Calls Try.prog 52 #[.pointer (some ⟨b, 0, none⟩), .agg #[.int .i32 z.l, .int .i32 z.r, .int .i64 z.c, .int .i64 z.s, .int .i64 z.mn, .int .i64 z.mx, .bool z.k]] W (Turn w0 b lim Pr' W fun e xs' => e = .returned (.agg #[.int .i32 z2.l, .int .i32 z2.r, .int .i64 z2.c, .int .i64 z2.s, .int .i64 z2.mn, .int .i64 z2.mx, .bool z2.k]) ∧ P1 xs'))
    (hP : ∀ Pr' W xs1, P1 xs1 → My w0 b lim xs1 Pr' W → Calls Try.prog 32 #[.pointer (some ⟨b, 0, none⟩), .int .i32 z2.l, .agg #[.int .u32 lo, .int .u32 mid], .int .u32 key, .int .i64 v] W (Turn w0 b lim Pr' W fun e xs' => e = .returned (.int .i32 i2) ∧ P2 xs'))
    (hS : ∀ Pr' W xs2, P2 xs2 → My w0 b lim xs2 Pr' W → Calls Try.prog 54 #[.pointer (some ⟨b, 0, none⟩), .int .i32 ((j : Nat) + 1 : Int), .agg #[.int .i32 i2, .int .i32 z2.r, .int .i64 z2.c, .int .i64 z2.s, .int .i64 z2.mn, .int .i64 z2.mx, .bool z2.k]] W (Turn w0 b lim Pr' W fun e xs' => (∃ u, e = .returned u) ∧ P3 xs')) :
    Calls Try.prog 32 #[.pointer (some ⟨b, 0, none⟩), .int .i32 i, .agg #[.int .u32 lo, .int .u32 hi], .int .u32 key, .int .i64 v] w (Turn w0 b lim Pr w fun e xs' => e = .returned (.int .i32 ((j : Nat) + 1 : Int)) ∧ P3 xs') := by
  have HM := Lib.hid hM
  have HKs := Lib.hid ((Keep.refl w).alloc (.cells #[.int .u32 lo, .int .u32 hi] 36))
  have HB := Lib.hid (SpB.new w lo hi)
  have HZ := Lib.hid hz
  have hi0 : 1 ≤ i := by omega
  subst hi1
  clear hz
  clear hM
  have HSI := Lib.hid (fun W => single_is lo hi false W (by rw [beq_eq_false_iff_ne]; omega))
  have HH := Lib.hid (fun W => halves_is lo hi mid W h0 h1 h2 hm)
  have HD := Lib.hid hD
  have HP := Lib.hid hP
  have HS := Lib.hid hS
  clear hD hP hS hm h0 h1 h2
  go_enter Try.func32, Try.ntmps32
  go_wp2_with fail
  generalize w.alloc (.cells #[.int .u32 lo, .int .u32 hi] 36) = V0 at *
  refine (my_get j z (HM.out.kept HKs.out) HZ.out).mono ?_
  rintro e w1 ⟨rfl, hk1⟩
  have HKn := Lib.hid ((HKs.out.trans hk1).alloc (.cells #[.int .i32 z.l, .int .i32 z.r, .int .i64 z.c, .int .i64 z.s, .int .i64 z.mn, .int .i64 z.mx, .bool z.k] 96))
  have HN := Lib.hid (show NdAt (w1.alloc (.cells #[.int .i32 z.l, .int .i32 z.r, .int .i64 z.c, .int .i64 z.s, .int .i64 z.mn, .int .i64 z.mx, .bool z.k] 96)) w1.heap.size z from NdAt.new w1 z)
  have HB1 := Lib.hid (HB.out.keep hk1)
  have HKV1 := Lib.hid ((Keep.refl w1).alloc (.cells #[.int .i32 z.l, .int .i32 z.r, .int .i64 z.c, .int .i64 z.s, .int .i64 z.mn, .int .i64 z.mx, .bool z.k] 96))
  have HLw := Lib.hid (show w.heap.size < w1.heap.size from HB1.out.lt)
  obtain ⟨p0, p1⟩ := HB1.out.cells
  have l1 := HB1.out.lt
  clear hk1 HB
  go_wp2_with fail
  generalize w1.alloc (.cells #[.int .i32 z.l, .int .i32 z.r, .int .i64 z.c, .int .i64 z.s, .int .i64 z.mn, .int .i64 z.mx, .bool z.k] 96) = V1 at *
  clear p0 p1 l1
  have HB2 := Lib.hid (show SpB V1 w.heap.size lo hi from HB1.out.keep HKV1.out)
  have HON := Lib.hid (On.start HM.out HKn.out (Nat.le_of_lt HLw.out) HN.out.lt)
  clear HM HKn HKs HKV1 HB1
  refine (HSI.out V1).mono ?_
  rintro e w3 ⟨rfl, hk3⟩
  have HON3 := Lib.hid (HON.out.keep hk3)
  have HN3 := Lib.hid (HN.out.keep hk3)
  have HB3 := Lib.hid (HB2.out.keep hk3)
  clear hk3 HON HN HB2
  obtain ⟨n0, n1, n2, n3, n4, n5, n6⟩ := HN3.out.cells
  go_wp2_with fail
  clear n0 n1 n2 n3 n4 n5 n6
  refine (HD.out _ _ HON3.out.my).mono ?_
  rintro e w4 ht
  obtain ⟨xs4, ⟨rfl, hp4⟩, hon4, ho4⟩ := HON3.out.turn ht
  have hle4 := hon4.le
  have HN4 := Lib.hid (HN3.out.only ho4 (fun h => h (.inr ⟨hle4, Nat.le_refl _⟩)))
  have HB4 := Lib.hid (HB3.out.only ho4 (fun h => h (.inr ⟨Nat.le_refl _, hle4⟩)))
  have HP4 := Lib.hid hp4
  have HON4 := Lib.hid hon4
  clear ht hp4 hon4 ho4 HON3 HN3 HB3
  obtain ⟨n0, n1, n2, n3, n4, n5, n6⟩ := HN4.out.cells
  obtain ⟨f0, f1, f2, f3, f4, f5, f6⟩ := HN4.out.free
  obtain ⟨p0, p1⟩ := HB4.out.cells
  have hne : ¬ w.heap.size = w1.heap.size := Nat.ne_of_lt HLw.out
  go_wp2_with fail
  clear n0 n1 n2 n3 n4 n5 n6 f0 f1 f2 f3 f4 f5 f6 p0 p1
  have hO5 : Only (fun k => k = w1.heap.size) w4 (((((((w4.setCell ⟨w1.heap.size, 0, none⟩ (.int .i32 z2.l)).setCell ⟨w1.heap.size, 1, none⟩ (.int .i32 z2.r)).setCell ⟨w1.heap.size, 2, none⟩ (.int .i64 z2.c)).setCell ⟨w1.heap.size, 3, none⟩ (.int .i64 z2.s)).setCell ⟨w1.heap.size, 4, none⟩ (.int .i64 z2.mn)).setCell ⟨w1.heap.size, 5, none⟩ (.int .i64 z2.mx)).setCell ⟨w1.heap.size, 6, none⟩ (.bool z2.k)) := set7_only (S := fun k => k = w1.heap.size) (Only.refl _ w4) rfl z2
  have HN5 := Lib.hid (HN4.out.stored z2)
  have HON5 := Lib.hid (HON4.out.store hO5)
  clear hO5 HN4 HON4 HB4
  generalize ((((((w4.setCell ⟨w1.heap.size, 0, none⟩ (.int .i32 z2.l)).setCell ⟨w1.heap.size, 1, none⟩ (.int .i32 z2.r)).setCell ⟨w1.heap.size, 2, none⟩ (.int .i64 z2.c)).setCell ⟨w1.heap.size, 3, none⟩ (.int .i64 z2.s)).setCell ⟨w1.heap.size, 4, none⟩ (.int .i64 z2.mn)).setCell ⟨w1.heap.size, 5, none⟩ (.int .i64 z2.mx)).setCell ⟨w1.heap.size, 6, none⟩ (.bool z2.k) = W5 at *
  refine (HH.out W5).mono ?_
  rintro e w6 ⟨rfl, hk6⟩
  have HK6 := Lib.hid ((hk6.alloc (.cells #[.int .u32 lo, .int .u32 mid] 36)).alloc (.cells #[.int .u32 (mid + 1), .int .u32 hi] 36))
  obtain ⟨n0, n1, n2, n3, n4, n5, n6⟩ := (HN5.out.keep hk6).cells
  have ln : w1.heap.size < w6.heap.size := (HN5.out.keep hk6).lt
  clear hk6 hne HH
  go_wp2_with fail
  clear n0 n1 n2 n3 n4 n5 n6 ln
  generalize (w6.alloc (.cells #[.int .u32 lo, .int .u32 mid] 36)).alloc (.cells #[.int .u32 (mid + 1), .int .u32 hi] 36) = V6 at *
  have HN6 := Lib.hid (HN5.out.keep HK6.out)
  have HON6 := Lib.hid (HON5.out.keep HK6.out)
  clear HN5 HON5 HK6
  refine (HP.out _ _ _ HP4.out HON6.out.my).mono ?_
  rintro e w7 ht
  obtain ⟨xs7, ⟨rfl, hp7⟩, hon7, ho7⟩ := HON6.out.turn ht
  have hle7 := hon7.le
  have HN7 := Lib.hid (HN6.out.only ho7 (fun h => h (.inr ⟨hle7, Nat.le_refl _⟩)))
  have HP7 := Lib.hid hp7
  have HON7 := Lib.hid hon7
  clear ht hp7 hon7 ho7 HON6 HN6 HP4 HP
  obtain ⟨n0, n1, n2, n3, n4, n5, n6⟩ := HN7.out.cells
  obtain ⟨f0, f1, f2, f3, f4, f5, f6⟩ := HN7.out.free
  go_wp2_with fail
  clear n0 n1 n2 n3 n4 n5 n6 f0 f1 f2 f3 f4 f5 f6
  have HON8 := Lib.hid (HON7.out.store (X' := w7.setCell ⟨w1.heap.size, 0, none⟩ (.int .i32 i2)) ((Only.refl _ w7).setCell _ _ rfl))
  clear HN7 HON7
  generalize w7.setCell ⟨w1.heap.size, 0, none⟩ (.int .i32 i2) = W8 at *
  refine (HS.out _ _ _ HP7.out HON8.out.my).mono ?_
  rintro e w9 ht
  obtain ⟨xs9, ⟨⟨u, rfl⟩, hp9⟩, hon9, ho9⟩ := HON8.out.turn ht
  have HP9 := Lib.hid hp9
  have HON9 := Lib.hid hon9
  clear ht hp9 hon9 ho9 HON8 HP7 HS
  go_wp2
  go_ret
  exact HON9.out.fin ⟨rfl, HP9.out⟩
set_option maxRecDepth 100000 in
set_option maxHeartbeats 2000000 in
theorem put_got_right {w0 w : World} {b lim : Nat} {xs : List Nd} {Pr : Nat → Prop} {lo hi key v i : Int} (hM : My w0 b lim xs Pr w) {z : Nd} (j : Nat) (hz : xs[j]? = some z) (hi1 : i = (j : Int) + 1) {mid i2 : Int} {z2 : Nd} {P1 P2 P3 : List Nd → Prop} (h0 : 0 ≤ lo) (h1 : lo < hi) (h2 : hi ≤ 4294967295) (hm : lo + (hi - lo) / 2 = mid) (hk : ¬ key < mid + 1) 
    (hD : ∀ Pr' W, My w0 b lim xs Pr' W → Calls Try.prog 52 #[.pointer (some ⟨b, 0, none⟩), .agg #[.int .i32 z.l, .int .i32 z.r, .int .i64 z.c, .int .i64 z.s, .int .i64 z.mn, .int .i64 z.mx, .bool z.k]] W (Turn w0 b lim Pr' W fun e xs' => e = .returned (.agg #[.int .i32 z2.l, .int .i32 z2.r, .int .i64 z2.c, .int .i64 z2.s, .int .i64 z2.mn, .int .i64 z2.mx, .bool z2.k]) ∧ P1 xs'))
    (hP : ∀ Pr' W xs1, P1 xs1 → My w0 b lim xs1 Pr' W → Calls Try.prog 32 #[.pointer (some ⟨b, 0, none⟩), .int .i32 z2.r, .agg #[.int .u32 (mid + 1), .int .u32 hi], .int .u32 key, .int .i64 v] W (Turn w0 b lim Pr' W fun e xs' => e = .returned (.int .i32 i2) ∧ P2 xs'))
    (hS : ∀ Pr' W xs2, P2 xs2 → My w0 b lim xs2 Pr' W → Calls Try.prog 54 #[.pointer (some ⟨b, 0, none⟩), .int .i32 ((j : Nat) + 1 : Int), .agg #[.int .i32 z2.l, .int .i32 i2, .int .i64 z2.c, .int .i64 z2.s, .int .i64 z2.mn, .int .i64 z2.mx, .bool z2.k]] W (Turn w0 b lim Pr' W fun e xs' => (∃ u, e = .returned u) ∧ P3 xs')) :
    Calls Try.prog 32 #[.pointer (some ⟨b, 0, none⟩), .int .i32 i, .agg #[.int .u32 lo, .int .u32 hi], .int .u32 key, .int .i64 v] w (Turn w0 b lim Pr w fun e xs' => e = .returned (.int .i32 ((j : Nat) + 1 : Int)) ∧ P3 xs') := by
  have HM := Lib.hid hM
  have HKs := Lib.hid ((Keep.refl w).alloc (.cells #[.int .u32 lo, .int .u32 hi] 36))
  have HB := Lib.hid (SpB.new w lo hi)
  have HZ := Lib.hid hz
  have hi0 : 1 ≤ i := by omega
  subst hi1
  clear hz
  clear hM
  have HSI := Lib.hid (fun W => single_is lo hi false W (by rw [beq_eq_false_iff_ne]; omega))
  have HH := Lib.hid (fun W => halves_is lo hi mid W h0 h1 h2 hm)
  have HD := Lib.hid hD
  have HP := Lib.hid hP
  have HS := Lib.hid hS
  clear hD hP hS hm h0 h1 h2
  have hk2 : decide (key < mid + 1) = false := decide_eq_false hk
  clear hk
  go_enter Try.func32, Try.ntmps32
  go_wp2_with fail
  generalize w.alloc (.cells #[.int .u32 lo, .int .u32 hi] 36) = V0 at *
  refine (my_get j z (HM.out.kept HKs.out) HZ.out).mono ?_
  rintro e w1 ⟨rfl, hk1⟩
  have HKn := Lib.hid ((HKs.out.trans hk1).alloc (.cells #[.int .i32 z.l, .int .i32 z.r, .int .i64 z.c, .int .i64 z.s, .int .i64 z.mn, .int .i64 z.mx, .bool z.k] 96))
  have HN := Lib.hid (show NdAt (w1.alloc (.cells #[.int .i32 z.l, .int .i32 z.r, .int .i64 z.c, .int .i64 z.s, .int .i64 z.mn, .int .i64 z.mx, .bool z.k] 96)) w1.heap.size z from NdAt.new w1 z)
  have HB1 := Lib.hid (HB.out.keep hk1)
  have HKV1 := Lib.hid ((Keep.refl w1).alloc (.cells #[.int .i32 z.l, .int .i32 z.r, .int .i64 z.c, .int .i64 z.s, .int .i64 z.mn, .int .i64 z.mx, .bool z.k] 96))
  have HLw := Lib.hid (show w.heap.size < w1.heap.size from HB1.out.lt)
  obtain ⟨p0, p1⟩ := HB1.out.cells
  have l1 := HB1.out.lt
  clear hk1 HB
  go_wp2_with fail
  generalize w1.alloc (.cells #[.int .i32 z.l, .int .i32 z.r, .int .i64 z.c, .int .i64 z.s, .int .i64 z.mn, .int .i64 z.mx, .bool z.k] 96) = V1 at *
  clear p0 p1 l1
  have HB2 := Lib.hid (show SpB V1 w.heap.size lo hi from HB1.out.keep HKV1.out)
  have HON := Lib.hid (On.start HM.out HKn.out (Nat.le_of_lt HLw.out) HN.out.lt)
  clear HM HKn HKs HKV1 HB1
  refine (HSI.out V1).mono ?_
  rintro e w3 ⟨rfl, hk3⟩
  have HON3 := Lib.hid (HON.out.keep hk3)
  have HN3 := Lib.hid (HN.out.keep hk3)
  have HB3 := Lib.hid (HB2.out.keep hk3)
  clear hk3 HON HN HB2
  obtain ⟨n0, n1, n2, n3, n4, n5, n6⟩ := HN3.out.cells
  go_wp2_with fail
  clear n0 n1 n2 n3 n4 n5 n6
  refine (HD.out _ _ HON3.out.my).mono ?_
  rintro e w4 ht
  obtain ⟨xs4, ⟨rfl, hp4⟩, hon4, ho4⟩ := HON3.out.turn ht
  have hle4 := hon4.le
  have HN4 := Lib.hid (HN3.out.only ho4 (fun h => h (.inr ⟨hle4, Nat.le_refl _⟩)))
  have HB4 := Lib.hid (HB3.out.only ho4 (fun h => h (.inr ⟨Nat.le_refl _, hle4⟩)))
  have HP4 := Lib.hid hp4
  have HON4 := Lib.hid hon4
  clear ht hp4 hon4 ho4 HON3 HN3 HB3
  obtain ⟨n0, n1, n2, n3, n4, n5, n6⟩ := HN4.out.cells
  obtain ⟨f0, f1, f2, f3, f4, f5, f6⟩ := HN4.out.free
  obtain ⟨p0, p1⟩ := HB4.out.cells
  have hne : ¬ w.heap.size = w1.heap.size := Nat.ne_of_lt HLw.out
  go_wp2_with fail
  clear n0 n1 n2 n3 n4 n5 n6 f0 f1 f2 f3 f4 f5 f6 p0 p1
  have hO5 : Only (fun k => k = w1.heap.size) w4 (((((((w4.setCell ⟨w1.heap.size, 0, none⟩ (.int .i32 z2.l)).setCell ⟨w1.heap.size, 1, none⟩ (.int .i32 z2.r)).setCell ⟨w1.heap.size, 2, none⟩ (.int .i64 z2.c)).setCell ⟨w1.heap.size, 3, none⟩ (.int .i64 z2.s)).setCell ⟨w1.heap.size, 4, none⟩ (.int .i64 z2.mn)).setCell ⟨w1.heap.size, 5, none⟩ (.int .i64 z2.mx)).setCell ⟨w1.heap.size, 6, none⟩ (.bool z2.k)) := set7_only (S := fun k => k = w1.heap.size) (Only.refl _ w4) rfl z2
  have HN5 := Lib.hid (HN4.out.stored z2)
  have HON5 := Lib.hid (HON4.out.store hO5)
  clear hO5 HN4 HON4 HB4
  generalize ((((((w4.setCell ⟨w1.heap.size, 0, none⟩ (.int .i32 z2.l)).setCell ⟨w1.heap.size, 1, none⟩ (.int .i32 z2.r)).setCell ⟨w1.heap.size, 2, none⟩ (.int .i64 z2.c)).setCell ⟨w1.heap.size, 3, none⟩ (.int .i64 z2.s)).setCell ⟨w1.heap.size, 4, none⟩ (.int .i64 z2.mn)).setCell ⟨w1.heap.size, 5, none⟩ (.int .i64 z2.mx)).setCell ⟨w1.heap.size, 6, none⟩ (.bool z2.k) = W5 at *
  refine (HH.out W5).mono ?_
  rintro e w6 ⟨rfl, hk6⟩
  have HK6 := Lib.hid ((hk6.alloc (.cells #[.int .u32 lo, .int .u32 mid] 36)).alloc (.cells #[.int .u32 (mid + 1), .int .u32 hi] 36))
  obtain ⟨n0, n1, n2, n3, n4, n5, n6⟩ := (HN5.out.keep hk6).cells
  have ln : w1.heap.size < w6.heap.size := (HN5.out.keep hk6).lt
  clear hk6 hne HH
  go_wp2_with fail
  clear n0 n1 n2 n3 n4 n5 n6 ln
  generalize (w6.alloc (.cells #[.int .u32 lo, .int .u32 mid] 36)).alloc (.cells #[.int .u32 (mid + 1), .int .u32 hi] 36) = V6 at *
  have HN6 := Lib.hid (HN5.out.keep HK6.out)
  have HON6 := Lib.hid (HON5.out.keep HK6.out)
  clear HN5 HON5 HK6
  refine (HP.out _ _ _ HP4.out HON6.out.my).mono ?_
  rintro e w7 ht
  obtain ⟨xs7, ⟨rfl, hp7⟩, hon7, ho7⟩ := HON6.out.turn ht
  have hle7 := hon7.le
  have HN7 := Lib.hid (HN6.out.only ho7 (fun h => h (.inr ⟨hle7, Nat.le_refl _⟩)))
  have HP7 := Lib.hid hp7
  have HON7 := Lib.hid hon7
  clear ht hp7 hon7 ho7 HON6 HN6 HP4 HP
  obtain ⟨n0, n1, n2, n3, n4, n5, n6⟩ := HN7.out.cells
  obtain ⟨f0, f1, f2, f3, f4, f5, f6⟩ := HN7.out.free
  go_wp2_with fail
  clear n0 n1 n2 n3 n4 n5 n6 f0 f1 f2 f3 f4 f5 f6
  have HON8 := Lib.hid (HON7.out.store (X' := w7.setCell ⟨w1.heap.size, 1, none⟩ (.int .i32 i2)) ((Only.refl _ w7).setCell _ _ rfl))
  clear HN7 HON7
  generalize w7.setCell ⟨w1.heap.size, 1, none⟩ (.int .i32 i2) = W8 at *
  refine (HS.out _ _ _ HP7.out HON8.out.my).mono ?_
  rintro e w9 ht
  obtain ⟨xs9, ⟨⟨u, rfl⟩, hp9⟩, hon9, ho9⟩ := HON8.out.turn ht
  have HP9 := Lib.hid hp9
  have HON9 := Lib.hid hon9
  clear ht hp9 hon9 ho9 HON8 HP7 HS
  go_wp2
  go_ret
  exact HON9.out.fin ⟨rfl, HP9.out⟩
set_option maxRecDepth 100000 in
set_option maxHeartbeats 2000000 in
theorem put_made_leaf {w0 w : World} {b lim : Nat} {xs : List Nd} {Pr : Nat → Prop} {lo hi key v i : Int} (hM : My w0 b lim xs Pr w) (h32 : -2147483648 ≤ i ∧ i ≤ 2147483647) (hn : ¬ (1 ≤ i ∧ i ≤ (xs.length : Int))) (hf : xs.length < lim) (hl : lo = hi) (hv : inI v)  :
    Calls Try.prog 32 #[.pointer (some ⟨b, 0, none⟩), .int .i32 i, .agg #[.int .u32 lo, .int .u32 hi], .int .u32 key, .int .i64 v] w (Turn w0 b lim Pr w fun e xs' => e = .returned (.int .i32 ((xs.length : Nat) + 1 : Int)) ∧ xs' = (xs ++ [Nd.zero]).set xs.length (ndOf 0 0 (one1 v) false)) := by
  have HM := Lib.hid hM
  have HKs := Lib.hid ((Keep.refl w).alloc (.cells #[.int .u32 lo, .int .u32 hi] 36))
  have HB := Lib.hid (SpB.new w lo hi)
  have H32 := Lib.hid h32
  have HNO := Lib.hid hn
  have HF := Lib.hid hf
  have HI32 := Lib.hid (show (xs.length : Int) + 1 ≤ 4194305 by have := hM.top; omega)
  clear h32 hn hf
  clear hM
  have HV := Lib.hid hv
  have HSI := Lib.hid (fun W => single_is lo hi true W (by rw [hl]; exact beq_self_eq_true hi))
  clear hv hl
  go_enter Try.func32, Try.ntmps32
  go_wp2_with fail
  generalize w.alloc (.cells #[.int .u32 lo, .int .u32 hi] 36) = V0 at *
  refine (my_getno i (HM.out.kept HKs.out) H32.out HNO.out).mono ?_
  rintro e w1 ⟨rfl, hk1⟩
  have HKn := Lib.hid ((HKs.out.trans hk1).alloc (.cells #[.int .i32 0, .int .i32 0, .int .i64 0, .int .i64 0, .int .i64 0, .int .i64 0, .bool false] 96))
  have HN := Lib.hid (show NdAt (w1.alloc (.cells #[.int .i32 0, .int .i32 0, .int .i64 0, .int .i64 0, .int .i64 0, .int .i64 0, .bool false] 96)) w1.heap.size Nd.zero from NdAt.new w1 Nd.zero)
  have HB1 := Lib.hid (HB.out.keep hk1)
  have HKV1 := Lib.hid ((Keep.refl w1).alloc (.cells #[.int .i32 0, .int .i32 0, .int .i64 0, .int .i64 0, .int .i64 0, .int .i64 0, .bool false] 96))
  have HLw := Lib.hid (show w.heap.size < w1.heap.size from HB1.out.lt)
  obtain ⟨p0, p1⟩ := HB1.out.cells
  have l1 := HB1.out.lt
  clear hk1 HB
  go_wp2_with fail
  generalize w1.alloc (.cells #[.int .i32 0, .int .i32 0, .int .i64 0, .int .i64 0, .int .i64 0, .int .i64 0, .bool false] 96) = V1 at *
  clear p0 p1 l1
  have HB2 := Lib.hid (show SpB V1 w.heap.size lo hi from HB1.out.keep HKV1.out)
  have HON := Lib.hid (On.start HM.out HKn.out (Nat.le_of_lt HLw.out) HN.out.lt)
  clear HM HKn HKs HKV1 HB1
  refine (my_alloc HON.out.my HF.out).mono ?_
  rintro e w2 ⟨rfl, hm2, ho2⟩
  obtain ⟨xs1, rfl, hon2, ho2⟩ := HON.out.turn (Q := fun _ xs' => xs' = xs ++ [Nd.zero]) (e := .returned undef) ⟨_, rfl, hm2, ho2⟩
  have HON_ := Lib.hid hon2
  have HN_ := Lib.hid (HN.out.only ho2 (fun h => h (.inr ⟨hon2.le, Nat.le_refl _⟩)))
  have HB2' := Lib.hid (HB2.out.only ho2 (fun h => h (.inr ⟨Nat.le_refl _, hon2.le⟩)))
  clear hm2 ho2 hon2 HON HN
  clear HB2
  have HB2 := HB2'
  have HON := HON_
  have HN := HN_
  clear HB2' HON_ HN_
  obtain ⟨p0, p1⟩ := HB2.out.cells
  go_wp2_with fail
  clear p0 p1
  refine (HSI.out w2).mono ?_
  rintro e w3 ⟨rfl, hk3⟩
  have HON3 := Lib.hid (HON.out.keep hk3)
  have HN3 := Lib.hid (HN.out.keep hk3)
  have HB3 := Lib.hid (HB2.out.keep hk3)
  clear hk3 HON HN HB2
  go_wp2_with fail
  have hKc := (Keep.refl w3).drew
  have HSET := Lib.hid (fun W (hm : My w0 b lim (xs ++ [Nd.zero]) (Up Pr w w1.heap.size) W) => my_set xs.length (ndOf 0 0 (one1 v) false) hm (by simp))
  refine seq_region (S := fun _ => True) [⟨0, 1, 17179869184⟩, ⟨1, 17179869184, 34359738368⟩, ⟨2, 34359738368, 68719476736⟩, ⟨0, 2, 137438953472⟩, ⟨0, 16, 274877906944⟩, ⟨16, 274877906944, 549755813888⟩, ⟨32, 549755813888, 1099511627776⟩, ⟨108, 1305670057984, 2199023255552⟩] [(0, false), (1, false), (2, false), (3, false), (4, false), (5, true), (6, false), (7, true)] rfl (by kernel_rfl) (by kernel_rfl) (fun _ _ d _ _ h => by cases d <;> exact h) trivial ?_
  simp only [rowsOf, rowAt, gslot, List.map_cons, List.map_nil, List.getElem?_toArray, List.getElem?_cons_zero, List.getElem?_cons_succ]
  repeat (first
    | (refine seq_take (v := ?_) (a' := ?_) (by rfl) ?_ ?_ ?_
       rotate_left 2
       · (intro w hSw; go_simp; with_reducible rfl)
       · (simp only [Act.put, List.setIfInBounds_toArray, List.set_cons_zero, List.set_cons_succ]; with_reducible rfl)))
  refine seq_callR (R := fun w' => Keep w3 w') (f := 51) (args := ?_) (v := ?_) (a' := ?_) (by rfl) (by rfl) (by rfl) Try.call51 ?_ ?_ ?_ ?_
  rotate_left 3
  · (go_simp; with_reducible rfl)
  · ((with_reducible refine (one_any v _).mono ?_)
     rintro e w' ⟨rfl, hk⟩
     refine ⟨?_, trivial, hKc.trans hk⟩
     with_reducible rfl)
  · (simp only [Act.put, List.setIfInBounds_toArray, List.set_cons_zero, List.set_cons_succ]; with_reducible rfl)
  clear hKc
  intro w4 hw4 hKc
  clear hw4
  repeat (first
    | (refine seq_take (v := ?_) (a' := ?_) (by rfl) ?_ ?_ ?_
       rotate_left 2
       · (intro w hSw; go_simp; with_reducible rfl)
       · (simp only [Act.put, List.setIfInBounds_toArray, List.set_cons_zero, List.set_cons_succ]; with_reducible rfl)))
  refine seq_callR (R := fun w' => Turn w0 b lim (Up Pr w w1.heap.size) w4 (fun _ xs' => xs' = (xs ++ [Nd.zero]).set xs.length (ndOf 0 0 (one1 v) false)) (.returned undef) w') (f := 50) (args := ?_) (v := ?_) (a' := ?_) (by rfl) (by rfl) (by rfl) Try.call50 ?_ ?_ ?_ ?_
  rotate_left 3
  · (go_simp; with_reducible rfl)
  · (refine (HSET.out _ (HON3.out.keep hKc).my).mono ?_
     rintro e w' ⟨rfl, hm, ho⟩
     refine ⟨?_, trivial, _, rfl, hm, ho⟩
     with_reducible rfl)
  · (simp only [Act.put, List.setIfInBounds_toArray, List.set_cons_zero, List.set_cons_succ]; with_reducible rfl)
  intro w' hw2 ht
  clear hw2
  obtain ⟨xs2, rfl, hon5, ho5⟩ := (HON3.out.keep hKc).turn ht
  have HON5 := Lib.hid hon5
  clear ht ho5 hon5 hKc
  refine seq_nil ?_
  go_wp2
  go_ret
  exact HON5.out.fin ⟨rfl, rfl⟩
set_option maxRecDepth 100000 in
set_option maxHeartbeats 2000000 in
theorem put_made_left {w0 w : World} {b lim : Nat} {xs : List Nd} {Pr : Nat → Prop} {lo hi key v i : Int} (hM : My w0 b lim xs Pr w) (h32 : -2147483648 ≤ i ∧ i ≤ 2147483647) (hn : ¬ (1 ≤ i ∧ i ≤ (xs.length : Int))) (hf : xs.length < lim) {mid i2 : Int} {z2 : Nd} {P1 P2 P3 : List Nd → Prop} (h0 : 0 ≤ lo) (h1 : lo < hi) (h2 : hi ≤ 4294967295) (hm : lo + (hi - lo) / 2 = mid) (hk : key < mid + 1) 
    (hD : ∀ Pr' W, My w0 b lim (xs ++ [Nd.zero]) Pr' W → Calls Try.prog 52 #[.pointer (some ⟨b, 0, none⟩), .agg #[.int .i32 Nd.zero.l, .int .i32 Nd.zero.r, .int .i64 Nd.zero.c, .int .i64 Nd.zero.s, .int .i64 Nd.zero.mn, .int .i64 Nd.zero.mx, .bool Nd.zero.k]] W (Turn w0 b lim Pr' W fun e xs' => e = .returned (.agg #[.int .i32 z2.l, .int .i32 z2.r, .int .i64 z2.c, .int .i64 z2.s, .int .i64 z2.mn, .int .i64 z2.mx, .bool z2.k]) ∧ P1 xs'))
    (hP : ∀ Pr' W xs1, P1 xs1 → My w0 b lim xs1 Pr' W → Calls Try.prog 32 #[.pointer (some ⟨b, 0, none⟩), .int .i32 z2.l, .agg #[.int .u32 lo, .int .u32 mid], .int .u32 key, .int .i64 v] W (Turn w0 b lim Pr' W fun e xs' => e = .returned (.int .i32 i2) ∧ P2 xs'))
    (hS : ∀ Pr' W xs2, P2 xs2 → My w0 b lim xs2 Pr' W → Calls Try.prog 54 #[.pointer (some ⟨b, 0, none⟩), .int .i32 ((xs.length : Nat) + 1 : Int), .agg #[.int .i32 i2, .int .i32 z2.r, .int .i64 z2.c, .int .i64 z2.s, .int .i64 z2.mn, .int .i64 z2.mx, .bool z2.k]] W (Turn w0 b lim Pr' W fun e xs' => (∃ u, e = .returned u) ∧ P3 xs')) :
    Calls Try.prog 32 #[.pointer (some ⟨b, 0, none⟩), .int .i32 i, .agg #[.int .u32 lo, .int .u32 hi], .int .u32 key, .int .i64 v] w (Turn w0 b lim Pr w fun e xs' => e = .returned (.int .i32 ((xs.length : Nat) + 1 : Int)) ∧ P3 xs') := by
  have HM := Lib.hid hM
  have HKs := Lib.hid ((Keep.refl w).alloc (.cells #[.int .u32 lo, .int .u32 hi] 36))
  have HB := Lib.hid (SpB.new w lo hi)
  have H32 := Lib.hid h32
  have HNO := Lib.hid hn
  have HF := Lib.hid hf
  have HI32 := Lib.hid (show (xs.length : Int) + 1 ≤ 4194305 by have := hM.top; omega)
  clear h32 hn hf
  clear hM
  have HSI := Lib.hid (fun W => single_is lo hi false W (by rw [beq_eq_false_iff_ne]; omega))
  have HH := Lib.hid (fun W => halves_is lo hi mid W h0 h1 h2 hm)
  have HD := Lib.hid hD
  have HP := Lib.hid hP
  have HS := Lib.hid hS
  clear hD hP hS hm h0 h1 h2
  go_enter Try.func32, Try.ntmps32
  go_wp2_with fail
  generalize w.alloc (.cells #[.int .u32 lo, .int .u32 hi] 36) = V0 at *
  refine (my_getno i (HM.out.kept HKs.out) H32.out HNO.out).mono ?_
  rintro e w1 ⟨rfl, hk1⟩
  have HKn := Lib.hid ((HKs.out.trans hk1).alloc (.cells #[.int .i32 0, .int .i32 0, .int .i64 0, .int .i64 0, .int .i64 0, .int .i64 0, .bool false] 96))
  have HN := Lib.hid (show NdAt (w1.alloc (.cells #[.int .i32 0, .int .i32 0, .int .i64 0, .int .i64 0, .int .i64 0, .int .i64 0, .bool false] 96)) w1.heap.size Nd.zero from NdAt.new w1 Nd.zero)
  have HB1 := Lib.hid (HB.out.keep hk1)
  have HKV1 := Lib.hid ((Keep.refl w1).alloc (.cells #[.int .i32 0, .int .i32 0, .int .i64 0, .int .i64 0, .int .i64 0, .int .i64 0, .bool false] 96))
  have HLw := Lib.hid (show w.heap.size < w1.heap.size from HB1.out.lt)
  obtain ⟨p0, p1⟩ := HB1.out.cells
  have l1 := HB1.out.lt
  clear hk1 HB
  go_wp2_with fail
  generalize w1.alloc (.cells #[.int .i32 0, .int .i32 0, .int .i64 0, .int .i64 0, .int .i64 0, .int .i64 0, .bool false] 96) = V1 at *
  clear p0 p1 l1
  have HB2 := Lib.hid (show SpB V1 w.heap.size lo hi from HB1.out.keep HKV1.out)
  have HON := Lib.hid (On.start HM.out HKn.out (Nat.le_of_lt HLw.out) HN.out.lt)
  clear HM HKn HKs HKV1 HB1
  refine (my_alloc HON.out.my HF.out).mono ?_
  rintro e w2 ⟨rfl, hm2, ho2⟩
  obtain ⟨xs1, rfl, hon2, ho2⟩ := HON.out.turn (Q := fun _ xs' => xs' = xs ++ [Nd.zero]) (e := .returned undef) ⟨_, rfl, hm2, ho2⟩
  have HON_ := Lib.hid hon2
  have HN_ := Lib.hid (HN.out.only ho2 (fun h => h (.inr ⟨hon2.le, Nat.le_refl _⟩)))
  have HB2' := Lib.hid (HB2.out.only ho2 (fun h => h (.inr ⟨Nat.le_refl _, hon2.le⟩)))
  clear hm2 ho2 hon2 HON HN
  clear HB2
  have HB2 := HB2'
  have HON := HON_
  have HN := HN_
  clear HB2' HON_ HN_
  obtain ⟨p0, p1⟩ := HB2.out.cells
  go_wp2_with fail
  clear p0 p1
  refine (HSI.out w2).mono ?_
  rintro e w3 ⟨rfl, hk3⟩
  have HON3 := Lib.hid (HON.out.keep hk3)
  have HN3 := Lib.hid (HN.out.keep hk3)
  have HB3 := Lib.hid (HB2.out.keep hk3)
  clear hk3 HON HN HB2
  obtain ⟨n0, n1, n2, n3, n4, n5, n6⟩ := HN3.out.cells
  go_wp2_with fail
  clear n0 n1 n2 n3 n4 n5 n6
  refine (HD.out _ _ HON3.out.my).mono ?_
  rintro e w4 ht
  obtain ⟨xs4, ⟨rfl, hp4⟩, hon4, ho4⟩ := HON3.out.turn ht
  have hle4 := hon4.le
  have HN4 := Lib.hid (HN3.out.only ho4 (fun h => h (.inr ⟨hle4, Nat.le_refl _⟩)))
  have HB4 := Lib.hid (HB3.out.only ho4 (fun h => h (.inr ⟨Nat.le_refl _, hle4⟩)))
  have HP4 := Lib.hid hp4
  have HON4 := Lib.hid hon4
  clear ht hp4 hon4 ho4 HON3 HN3 HB3
  obtain ⟨n0, n1, n2, n3, n4, n5, n6⟩ := HN4.out.cells
  obtain ⟨f0, f1, f2, f3, f4, f5, f6⟩ := HN4.out.free
  obtain ⟨p0, p1⟩ := HB4.out.cells
  have hne : ¬ w.heap.size = w1.heap.size := Nat.ne_of_lt HLw.out
  go_wp2_with fail
  clear n0 n1 n2 n3 n4 n5 n6 f0 f1 f2 f3 f4 f5 f6 p0 p1
  have hO5 : Only (fun k => k = w1.heap.size) w4 (((((((w4.setCell ⟨w1.heap.size, 0, none⟩ (.int .i32 z2.l)).setCell ⟨w1.heap.size, 1, none⟩ (.int .i32 z2.r)).setCell ⟨w1.heap.size, 2, none⟩ (.int .i64 z2.c)).setCell ⟨w1.heap.size, 3, none⟩ (.int .i64 z2.s)).setCell ⟨w1.heap.size, 4, none⟩ (.int .i64 z2.mn)).setCell ⟨w1.heap.size, 5, none⟩ (.int .i64 z2.mx)).setCell ⟨w1.heap.size, 6, none⟩ (.bool z2.k)) := set7_only (S := fun k => k = w1.heap.size) (Only.refl _ w4) rfl z2
  have HN5 := Lib.hid (HN4.out.stored z2)
  have HON5 := Lib.hid (HON4.out.store hO5)
  clear hO5 HN4 HON4 HB4
  generalize ((((((w4.setCell ⟨w1.heap.size, 0, none⟩ (.int .i32 z2.l)).setCell ⟨w1.heap.size, 1, none⟩ (.int .i32 z2.r)).setCell ⟨w1.heap.size, 2, none⟩ (.int .i64 z2.c)).setCell ⟨w1.heap.size, 3, none⟩ (.int .i64 z2.s)).setCell ⟨w1.heap.size, 4, none⟩ (.int .i64 z2.mn)).setCell ⟨w1.heap.size, 5, none⟩ (.int .i64 z2.mx)).setCell ⟨w1.heap.size, 6, none⟩ (.bool z2.k) = W5 at *
  refine (HH.out W5).mono ?_
  rintro e w6 ⟨rfl, hk6⟩
  have HK6 := Lib.hid ((hk6.alloc (.cells #[.int .u32 lo, .int .u32 mid] 36)).alloc (.cells #[.int .u32 (mid + 1), .int .u32 hi] 36))
  obtain ⟨n0, n1, n2, n3, n4, n5, n6⟩ := (HN5.out.keep hk6).cells
  have ln : w1.heap.size < w6.heap.size := (HN5.out.keep hk6).lt
  clear hk6 hne HH
  go_wp2_with fail
  clear n0 n1 n2 n3 n4 n5 n6 ln
  generalize (w6.alloc (.cells #[.int .u32 lo, .int .u32 mid] 36)).alloc (.cells #[.int .u32 (mid + 1), .int .u32 hi] 36) = V6 at *
  have HN6 := Lib.hid (HN5.out.keep HK6.out)
  have HON6 := Lib.hid (HON5.out.keep HK6.out)
  clear HN5 HON5 HK6
  refine (HP.out _ _ _ HP4.out HON6.out.my).mono ?_
  rintro e w7 ht
  obtain ⟨xs7, ⟨rfl, hp7⟩, hon7, ho7⟩ := HON6.out.turn ht
  have hle7 := hon7.le
  have HN7 := Lib.hid (HN6.out.only ho7 (fun h => h (.inr ⟨hle7, Nat.le_refl _⟩)))
  have HP7 := Lib.hid hp7
  have HON7 := Lib.hid hon7
  clear ht hp7 hon7 ho7 HON6 HN6 HP4 HP
  obtain ⟨n0, n1, n2, n3, n4, n5, n6⟩ := HN7.out.cells
  obtain ⟨f0, f1, f2, f3, f4, f5, f6⟩ := HN7.out.free
  go_wp2_with fail
  clear n0 n1 n2 n3 n4 n5 n6 f0 f1 f2 f3 f4 f5 f6
  have HON8 := Lib.hid (HON7.out.store (X' := w7.setCell ⟨w1.heap.size, 0, none⟩ (.int .i32 i2)) ((Only.refl _ w7).setCell _ _ rfl))
  clear HN7 HON7
  generalize w7.setCell ⟨w1.heap.size, 0, none⟩ (.int .i32 i2) = W8 at *
  refine (HS.out _ _ _ HP7.out HON8.out.my).mono ?_
  rintro e w9 ht
  obtain ⟨xs9, ⟨⟨u, rfl⟩, hp9⟩, hon9, ho9⟩ := HON8.out.turn ht
  have HP9 := Lib.hid hp9
  have HON9 := Lib.hid hon9
  clear ht hp9 hon9 ho9 HON8 HP7 HS
  go_wp2
  go_ret
  exact HON9.out.fin ⟨rfl, HP9.out⟩
set_option maxRecDepth 100000 in
set_option maxHeartbeats 2000000 in
theorem put_made_right {w0 w : World} {b lim : Nat} {xs : List Nd} {Pr : Nat → Prop} {lo hi key v i : Int} (hM : My w0 b lim xs Pr w) (h32 : -2147483648 ≤ i ∧ i ≤ 2147483647) (hn : ¬ (1 ≤ i ∧ i ≤ (xs.length : Int))) (hf : xs.length < lim) {mid i2 : Int} {z2 : Nd} {P1 P2 P3 : List Nd → Prop} (h0 : 0 ≤ lo) (h1 : lo < hi) (h2 : hi ≤ 4294967295) (hm : lo + (hi - lo) / 2 = mid) (hk : ¬ key < mid + 1) 
    (hD : ∀ Pr' W, My w0 b lim (xs ++ [Nd.zero]) Pr' W → Calls Try.prog 52 #[.pointer (some ⟨b, 0, none⟩), .agg #[.int .i32 Nd.zero.l, .int .i32 Nd.zero.r, .int .i64 Nd.zero.c, .int .i64 Nd.zero.s, .int .i64 Nd.zero.mn, .int .i64 Nd.zero.mx, .bool Nd.zero.k]] W (Turn w0 b lim Pr' W fun e xs' => e = .returned (.agg #[.int .i32 z2.l, .int .i32 z2.r, .int .i64 z2.c, .int .i64 z2.s, .int .i64 z2.mn, .int .i64 z2.mx, .bool z2.k]) ∧ P1 xs'))
    (hP : ∀ Pr' W xs1, P1 xs1 → My w0 b lim xs1 Pr' W → Calls Try.prog 32 #[.pointer (some ⟨b, 0, none⟩), .int .i32 z2.r, .agg #[.int .u32 (mid + 1), .int .u32 hi], .int .u32 key, .int .i64 v] W (Turn w0 b lim Pr' W fun e xs' => e = .returned (.int .i32 i2) ∧ P2 xs'))
    (hS : ∀ Pr' W xs2, P2 xs2 → My w0 b lim xs2 Pr' W → Calls Try.prog 54 #[.pointer (some ⟨b, 0, none⟩), .int .i32 ((xs.length : Nat) + 1 : Int), .agg #[.int .i32 z2.l, .int .i32 i2, .int .i64 z2.c, .int .i64 z2.s, .int .i64 z2.mn, .int .i64 z2.mx, .bool z2.k]] W (Turn w0 b lim Pr' W fun e xs' => (∃ u, e = .returned u) ∧ P3 xs')) :
    Calls Try.prog 32 #[.pointer (some ⟨b, 0, none⟩), .int .i32 i, .agg #[.int .u32 lo, .int .u32 hi], .int .u32 key, .int .i64 v] w (Turn w0 b lim Pr w fun e xs' => e = .returned (.int .i32 ((xs.length : Nat) + 1 : Int)) ∧ P3 xs') := by
  have HM := Lib.hid hM
  have HKs := Lib.hid ((Keep.refl w).alloc (.cells #[.int .u32 lo, .int .u32 hi] 36))
  have HB := Lib.hid (SpB.new w lo hi)
  have H32 := Lib.hid h32
  have HNO := Lib.hid hn
  have HF := Lib.hid hf
  have HI32 := Lib.hid (show (xs.length : Int) + 1 ≤ 4194305 by have := hM.top; omega)
  clear h32 hn hf
  clear hM
  have HSI := Lib.hid (fun W => single_is lo hi false W (by rw [beq_eq_false_iff_ne]; omega))
  have HH := Lib.hid (fun W => halves_is lo hi mid W h0 h1 h2 hm)
  have HD := Lib.hid hD
  have HP := Lib.hid hP
  have HS := Lib.hid hS
  clear hD hP hS hm h0 h1 h2
  have hk2 : decide (key < mid + 1) = false := decide_eq_false hk
  clear hk
  go_enter Try.func32, Try.ntmps32
  go_wp2_with fail
  generalize w.alloc (.cells #[.int .u32 lo, .int .u32 hi] 36) = V0 at *
  refine (my_getno i (HM.out.kept HKs.out) H32.out HNO.out).mono ?_
  rintro e w1 ⟨rfl, hk1⟩
  have HKn := Lib.hid ((HKs.out.trans hk1).alloc (.cells #[.int .i32 0, .int .i32 0, .int .i64 0, .int .i64 0, .int .i64 0, .int .i64 0, .bool false] 96))
  have HN := Lib.hid (show NdAt (w1.alloc (.cells #[.int .i32 0, .int .i32 0, .int .i64 0, .int .i64 0, .int .i64 0, .int .i64 0, .bool false] 96)) w1.heap.size Nd.zero from NdAt.new w1 Nd.zero)
  have HB1 := Lib.hid (HB.out.keep hk1)
  have HKV1 := Lib.hid ((Keep.refl w1).alloc (.cells #[.int .i32 0, .int .i32 0, .int .i64 0, .int .i64 0, .int .i64 0, .int .i64 0, .bool false] 96))
  have HLw := Lib.hid (show w.heap.size < w1.heap.size from HB1.out.lt)
  obtain ⟨p0, p1⟩ := HB1.out.cells
  have l1 := HB1.out.lt
  clear hk1 HB
  go_wp2_with fail
  generalize w1.alloc (.cells #[.int .i32 0, .int .i32 0, .int .i64 0, .int .i64 0, .int .i64 0, .int .i64 0, .bool false] 96) = V1 at *
  clear p0 p1 l1
  have HB2 := Lib.hid (show SpB V1 w.heap.size lo hi from HB1.out.keep HKV1.out)
  have HON := Lib.hid (On.start HM.out HKn.out (Nat.le_of_lt HLw.out) HN.out.lt)
  clear HM HKn HKs HKV1 HB1
  refine (my_alloc HON.out.my HF.out).mono ?_
  rintro e w2 ⟨rfl, hm2, ho2⟩
  obtain ⟨xs1, rfl, hon2, ho2⟩ := HON.out.turn (Q := fun _ xs' => xs' = xs ++ [Nd.zero]) (e := .returned undef) ⟨_, rfl, hm2, ho2⟩
  have HON_ := Lib.hid hon2
  have HN_ := Lib.hid (HN.out.only ho2 (fun h => h (.inr ⟨hon2.le, Nat.le_refl _⟩)))
  have HB2' := Lib.hid (HB2.out.only ho2 (fun h => h (.inr ⟨Nat.le_refl _, hon2.le⟩)))
  clear hm2 ho2 hon2 HON HN
  clear HB2
  have HB2 := HB2'
  have HON := HON_
  have HN := HN_
  clear HB2' HON_ HN_
  obtain ⟨p0, p1⟩ := HB2.out.cells
  go_wp2_with fail
  clear p0 p1
  refine (HSI.out w2).mono ?_
  rintro e w3 ⟨rfl, hk3⟩
  have HON3 := Lib.hid (HON.out.keep hk3)
  have HN3 := Lib.hid (HN.out.keep hk3)
  have HB3 := Lib.hid (HB2.out.keep hk3)
  clear hk3 HON HN HB2
  obtain ⟨n0, n1, n2, n3, n4, n5, n6⟩ := HN3.out.cells
  go_wp2_with fail
  clear n0 n1 n2 n3 n4 n5 n6
  refine (HD.out _ _ HON3.out.my).mono ?_
  rintro e w4 ht
  obtain ⟨xs4, ⟨rfl, hp4⟩, hon4, ho4⟩ := HON3.out.turn ht
  have hle4 := hon4.le
  have HN4 := Lib.hid (HN3.out.only ho4 (fun h => h (.inr ⟨hle4, Nat.le_refl _⟩)))
  have HB4 := Lib.hid (HB3.out.only ho4 (fun h => h (.inr ⟨Nat.le_refl _, hle4⟩)))
  have HP4 := Lib.hid hp4
  have HON4 := Lib.hid hon4
  clear ht hp4 hon4 ho4 HON3 HN3 HB3
  obtain ⟨n0, n1, n2, n3, n4, n5, n6⟩ := HN4.out.cells
  obtain ⟨f0, f1, f2, f3, f4, f5, f6⟩ := HN4.out.free
  obtain ⟨p0, p1⟩ := HB4.out.cells
  have hne : ¬ w.heap.size = w1.heap.size := Nat.ne_of_lt HLw.out
  go_wp2_with fail
  clear n0 n1 n2 n3 n4 n5 n6 f0 f1 f2 f3 f4 f5 f6 p0 p1
  have hO5 : Only (fun k => k = w1.heap.size) w4 (((((((w4.setCell ⟨w1.heap.size, 0, none⟩ (.int .i32 z2.l)).setCell ⟨w1.heap.size, 1, none⟩ (.int .i32 z2.r)).setCell ⟨w1.heap.size, 2, none⟩ (.int .i64 z2.c)).setCell ⟨w1.heap.size, 3, none⟩ (.int .i64 z2.s)).setCell ⟨w1.heap.size, 4, none⟩ (.int .i64 z2.mn)).setCell ⟨w1.heap.size, 5, none⟩ (.int .i64 z2.mx)).setCell ⟨w1.heap.size, 6, none⟩ (.bool z2.k)) := set7_only (S := fun k => k = w1.heap.size) (Only.refl _ w4) rfl z2
  have HN5 := Lib.hid (HN4.out.stored z2)
  have HON5 := Lib.hid (HON4.out.store hO5)
  clear hO5 HN4 HON4 HB4
  generalize ((((((w4.setCell ⟨w1.heap.size, 0, none⟩ (.int .i32 z2.l)).setCell ⟨w1.heap.size, 1, none⟩ (.int .i32 z2.r)).setCell ⟨w1.heap.size, 2, none⟩ (.int .i64 z2.c)).setCell ⟨w1.heap.size, 3, none⟩ (.int .i64 z2.s)).setCell ⟨w1.heap.size, 4, none⟩ (.int .i64 z2.mn)).setCell ⟨w1.heap.size, 5, none⟩ (.int .i64 z2.mx)).setCell ⟨w1.heap.size, 6, none⟩ (.bool z2.k) = W5 at *
  refine (HH.out W5).mono ?_
  rintro e w6 ⟨rfl, hk6⟩
  have HK6 := Lib.hid ((hk6.alloc (.cells #[.int .u32 lo, .int .u32 mid] 36)).alloc (.cells #[.int .u32 (mid + 1), .int .u32 hi] 36))
  obtain ⟨n0, n1, n2, n3, n4, n5, n6⟩ := (HN5.out.keep hk6).cells
  have ln : w1.heap.size < w6.heap.size := (HN5.out.keep hk6).lt
  clear hk6 hne HH
  go_wp2_with fail
  clear n0 n1 n2 n3 n4 n5 n6 ln
  generalize (w6.alloc (.cells #[.int .u32 lo, .int .u32 mid] 36)).alloc (.cells #[.int .u32 (mid + 1), .int .u32 hi] 36) = V6 at *
  have HN6 := Lib.hid (HN5.out.keep HK6.out)
  have HON6 := Lib.hid (HON5.out.keep HK6.out)
  clear HN5 HON5 HK6
  refine (HP.out _ _ _ HP4.out HON6.out.my).mono ?_
  rintro e w7 ht
  obtain ⟨xs7, ⟨rfl, hp7⟩, hon7, ho7⟩ := HON6.out.turn ht
  have hle7 := hon7.le
  have HN7 := Lib.hid (HN6.out.only ho7 (fun h => h (.inr ⟨hle7, Nat.le_refl _⟩)))
  have HP7 := Lib.hid hp7
  have HON7 := Lib.hid hon7
  clear ht hp7 hon7 ho7 HON6 HN6 HP4 HP
  obtain ⟨n0, n1, n2, n3, n4, n5, n6⟩ := HN7.out.cells
  obtain ⟨f0, f1, f2, f3, f4, f5, f6⟩ := HN7.out.free
  go_wp2_with fail
  clear n0 n1 n2 n3 n4 n5 n6 f0 f1 f2 f3 f4 f5 f6
  have HON8 := Lib.hid (HON7.out.store (X' := w7.setCell ⟨w1.heap.size, 1, none⟩ (.int .i32 i2)) ((Only.refl _ w7).setCell _ _ rfl))
  clear HN7 HON7
  generalize w7.setCell ⟨w1.heap.size, 1, none⟩ (.int .i32 i2) = W8 at *
  refine (HS.out _ _ _ HP7.out HON8.out.my).mono ?_
  rintro e w9 ht
  obtain ⟨xs9, ⟨⟨u, rfl⟩, hp9⟩, hon9, ho9⟩ := HON8.out.turn ht
  have HP9 := Lib.hid hp9
  have HON9 := Lib.hid hon9
  clear ht hp9 hon9 ho9 HON8 HP7 HS
  go_wp2
  go_ret
  exact HON9.out.fin ⟨rfl, HP9.out⟩
end Go.Proofs.Ytopengbflnoneaa
