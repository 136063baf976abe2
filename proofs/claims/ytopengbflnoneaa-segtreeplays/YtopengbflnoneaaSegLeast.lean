/- segtree.least: the least key below a node that has a value and isn't below another key. -/
import Derived.Test.YtopengbflnoneaaSegPut2
namespace Go.Proofs.Ytopengbflnoneaa
open Go.RowKit

theorem boxesL (w : World) (lo hi : Int) : SpB ((w.alloc (.cells #[.int .u32 lo, .int .u32 hi] 36)).alloc (.cells #[.int .i64 0, .int .i64 0, .int .i64 0, .int .i64 0] 38)) w.heap.size lo hi ∧ AgAt ((w.alloc (.cells #[.int .u32 lo, .int .u32 hi] 36)).alloc (.cells #[.int .i64 0, .int .i64 0, .int .i64 0, .int .i64 0] 38)) (w.heap.size + 1) nil0 := by
  have h1 := (SpB.new w lo hi).keep ((Keep.refl _).alloc (.cells #[.int .i64 0, .int .i64 0, .int .i64 0, .int .i64 0] 38))
  have h2 := AgAt.new (w.alloc (.cells #[.int .u32 lo, .int .u32 hi] 36)) nil0
  simp only [World.size_alloc] at h2
  exact ⟨h1, h2⟩
set_option maxRecDepth 100000 in
set_option maxHeartbeats 2000000 in
theorem least_none {b : Nat} {i lo hi fr : Int} {z : Nd} {w : World} (hz : z.c = 0) (hN : ∀ W, Keep w W → Calls Try.prog 55 #[.pointer (some ⟨b, 0, none⟩), .int .i32 i] W fun e w' => e = .returned (.agg #[.int .i32 z.l, .int .i32 z.r, .int .i64 z.c, .int .i64 z.s, .int .i64 z.mn, .int .i64 z.mx, .bool z.k]) ∧ Keep W w') :
    Calls Try.prog 62 #[.pointer (some ⟨b, 0, none⟩), .int .i32 i, .agg #[.int .u32 lo, .int .u32 hi], .int .u32 fr] w fun e w' => e = .returned (.tuple #[.int .u32 0, .agg #[.int .i64 nil0.c, .int .i64 nil0.s, .int .i64 nil0.mn, .int .i64 nil0.mx]]) ∧ Keep w w' := by
  have HK := Lib.hid (((Keep.refl w).alloc (.cells #[.int .u32 lo, .int .u32 hi] 36)).alloc (.cells #[.int .i64 0, .int .i64 0, .int .i64 0, .int .i64 0] 38))
  have HN := Lib.hid (hN _ HK.out)
  obtain ⟨hb1, hb3⟩ := boxesL w lo hi
  have HB1 := Lib.hid hb1
  have HB3 := Lib.hid hb3
  clear hN hb1 hb3
  go_enter Try.func62, Try.ntmps62
  go_wp2_with fail
  generalize ((w.alloc (.cells #[.int .u32 lo, .int .u32 hi] 36)).alloc (.cells #[.int .i64 0, .int .i64 0, .int .i64 0, .int .i64 0] 38)) = W3 at *
  refine HN.out.mono ?_
  rintro e w1 ⟨rfl, hk1⟩
  have H1 := Lib.hid (HB1.out.keep hk1)
  have H3 := Lib.hid (HB3.out.keep hk1)
  have HK1 := Lib.hid (HK.out.trans hk1)
  have HZ := Lib.hid (NdAt.new w1 z)
  have HKa := Lib.hid ((Keep.refl w1).alloc (.cells #[.int .i32 z.l, .int .i32 z.r, .int .i64 z.c, .int .i64 z.s, .int .i64 z.mn, .int .i64 z.mx, .bool z.k] 96))
  have l1 := H1.out.lt
  have l3 := H3.out.lt
  clear hk1 HN HB1 HB3 HK
  obtain ⟨p0, p1⟩ := H1.out.cells
  obtain ⟨a0, a1, a2, a3⟩ := H3.out.cells
  dsimp only [nil0] at a0 a1 a2 a3
  obtain ⟨f0, f1, f2, f3⟩ := H3.out.free
  have hzc : (z.c == 0) = true := by rw [beq_iff_eq]; exact hz
  clear hz
  go_wp2
  have hO : Only (fun k => k = w.heap.size + 1) w1 ((((w1.setCell ⟨w.heap.size + 1, 0, none⟩ (.int .i64 0)).setCell ⟨w.heap.size + 1, 1, none⟩ (.int .i64 0)).setCell ⟨w.heap.size + 1, 2, none⟩ (.int .i64 0)).setCell ⟨w.heap.size + 1, 3, none⟩ (.int .i64 0)) := set_only (S := fun k => k = w.heap.size + 1) (Only.refl _ w1) rfl
  have hF := set_at H3.out (0) (0) (0) (0)
  have hkF := Only.keep HK1.out hO (fun k hk => by omega)
  generalize ((((w1.setCell ⟨w.heap.size + 1, 0, none⟩ (.int .i64 0)).setCell ⟨w.heap.size + 1, 1, none⟩ (.int .i64 0)).setCell ⟨w.heap.size + 1, 2, none⟩ (.int .i64 0)).setCell ⟨w.heap.size + 1, 3, none⟩ (.int .i64 0)) = WF at *
  replace hF := hF.keep ((Keep.refl _).alloc (.cells #[.int .i32 z.l, .int .i32 z.r, .int .i64 z.c, .int .i64 z.s, .int .i64 z.mn, .int .i64 z.mx, .bool z.k] 96))
  replace hkF := hkF.alloc (.cells #[.int .i32 z.l, .int .i32 z.r, .int .i64 z.c, .int .i64 z.s, .int .i64 z.mn, .int .i64 z.mx, .bool z.k] 96)
  obtain ⟨g0, g1, g2, g3⟩ := hF.cells
  dsimp only at g0 g1 g2 g3
  exact bodyPost_ret (v := .tuple #[.int .u32 0, .agg #[.int .i64 (0), .int .i64 (0), .int .i64 (0), .int .i64 (0)]]) (by simp [results, Try.results62, go_sem, g0, g1, g2, g3]) rfl ⟨rfl, hkF⟩
set_option maxRecDepth 100000 in
set_option maxHeartbeats 2000000 in
theorem least_behind {b : Nat} {i lo hi fr : Int} {z : Nd} {w : World} (hz : z.c ≠ 0) (hf : hi < fr) (hN : ∀ W, Keep w W → Calls Try.prog 55 #[.pointer (some ⟨b, 0, none⟩), .int .i32 i] W fun e w' => e = .returned (.agg #[.int .i32 z.l, .int .i32 z.r, .int .i64 z.c, .int .i64 z.s, .int .i64 z.mn, .int .i64 z.mx, .bool z.k]) ∧ Keep W w') :
    Calls Try.prog 62 #[.pointer (some ⟨b, 0, none⟩), .int .i32 i, .agg #[.int .u32 lo, .int .u32 hi], .int .u32 fr] w fun e w' => e = .returned (.tuple #[.int .u32 0, .agg #[.int .i64 nil0.c, .int .i64 nil0.s, .int .i64 nil0.mn, .int .i64 nil0.mx]]) ∧ Keep w w' := by
  have HK := Lib.hid (((Keep.refl w).alloc (.cells #[.int .u32 lo, .int .u32 hi] 36)).alloc (.cells #[.int .i64 0, .int .i64 0, .int .i64 0, .int .i64 0] 38))
  have HN := Lib.hid (hN _ HK.out)
  obtain ⟨hb1, hb3⟩ := boxesL w lo hi
  have HB1 := Lib.hid hb1
  have HB3 := Lib.hid hb3
  clear hN hb1 hb3
  go_enter Try.func62, Try.ntmps62
  go_wp2_with fail
  generalize ((w.alloc (.cells #[.int .u32 lo, .int .u32 hi] 36)).alloc (.cells #[.int .i64 0, .int .i64 0, .int .i64 0, .int .i64 0] 38)) = W3 at *
  refine HN.out.mono ?_
  rintro e w1 ⟨rfl, hk1⟩
  have H1 := Lib.hid (HB1.out.keep hk1)
  have H3 := Lib.hid (HB3.out.keep hk1)
  have HK1 := Lib.hid (HK.out.trans hk1)
  have HZ := Lib.hid (NdAt.new w1 z)
  have HKa := Lib.hid ((Keep.refl w1).alloc (.cells #[.int .i32 z.l, .int .i32 z.r, .int .i64 z.c, .int .i64 z.s, .int .i64 z.mn, .int .i64 z.mx, .bool z.k] 96))
  have l1 := H1.out.lt
  have l3 := H3.out.lt
  clear hk1 HN HB1 HB3 HK
  obtain ⟨p0, p1⟩ := H1.out.cells
  obtain ⟨a0, a1, a2, a3⟩ := H3.out.cells
  dsimp only [nil0] at a0 a1 a2 a3
  obtain ⟨f0, f1, f2, f3⟩ := H3.out.free
  have hzc : (z.c == 0) = false := by rw [beq_eq_false_iff_ne]; exact hz
  clear hz
  go_wp2
  have hO : Only (fun k => k = w.heap.size + 1) w1 ((((w1.setCell ⟨w.heap.size + 1, 0, none⟩ (.int .i64 0)).setCell ⟨w.heap.size + 1, 1, none⟩ (.int .i64 0)).setCell ⟨w.heap.size + 1, 2, none⟩ (.int .i64 0)).setCell ⟨w.heap.size + 1, 3, none⟩ (.int .i64 0)) := set_only (S := fun k => k = w.heap.size + 1) (Only.refl _ w1) rfl
  have hF := set_at H3.out (0) (0) (0) (0)
  have hkF := Only.keep HK1.out hO (fun k hk => by omega)
  generalize ((((w1.setCell ⟨w.heap.size + 1, 0, none⟩ (.int .i64 0)).setCell ⟨w.heap.size + 1, 1, none⟩ (.int .i64 0)).setCell ⟨w.heap.size + 1, 2, none⟩ (.int .i64 0)).setCell ⟨w.heap.size + 1, 3, none⟩ (.int .i64 0)) = WF at *
  replace hF := hF.keep ((Keep.refl _).alloc (.cells #[.int .i32 z.l, .int .i32 z.r, .int .i64 z.c, .int .i64 z.s, .int .i64 z.mn, .int .i64 z.mx, .bool z.k] 96))
  replace hkF := hkF.alloc (.cells #[.int .i32 z.l, .int .i32 z.r, .int .i64 z.c, .int .i64 z.s, .int .i64 z.mn, .int .i64 z.mx, .bool z.k] 96)
  obtain ⟨g0, g1, g2, g3⟩ := hF.cells
  dsimp only at g0 g1 g2 g3
  exact bodyPost_ret (v := .tuple #[.int .u32 0, .agg #[.int .i64 (0), .int .i64 (0), .int .i64 (0), .int .i64 (0)]]) (by simp [results, Try.results62, go_sem, g0, g1, g2, g3]) rfl ⟨rfl, hkF⟩
set_option maxRecDepth 100000 in
set_option maxHeartbeats 2000000 in
theorem least_leaf {b : Nat} {i lo hi fr : Int} {z : Nd} {w : World} (hz : z.c ≠ 0) (hf : ¬ hi < fr) (hl : lo = hi) (hN : ∀ W, Keep w W → Calls Try.prog 55 #[.pointer (some ⟨b, 0, none⟩), .int .i32 i] W fun e w' => e = .returned (.agg #[.int .i32 z.l, .int .i32 z.r, .int .i64 z.c, .int .i64 z.s, .int .i64 z.mn, .int .i64 z.mx, .bool z.k]) ∧ Keep W w') :
    Calls Try.prog 62 #[.pointer (some ⟨b, 0, none⟩), .int .i32 i, .agg #[.int .u32 lo, .int .u32 hi], .int .u32 fr] w fun e w' => e = .returned (.tuple #[.int .u32 lo, .agg #[.int .i64 (nag z).c, .int .i64 (nag z).s, .int .i64 (nag z).mn, .int .i64 (nag z).mx]]) ∧ Keep w w' := by
  have HSI := Lib.hid (fun W => single_is lo hi true W (by rw [hl]; exact beq_self_eq_true hi))
  clear hl
  have HFD := Lib.hid (show decide (hi < fr) = false from decide_eq_false hf)
  clear hf
  have HK := Lib.hid (((Keep.refl w).alloc (.cells #[.int .u32 lo, .int .u32 hi] 36)).alloc (.cells #[.int .i64 0, .int .i64 0, .int .i64 0, .int .i64 0] 38))
  have HN := Lib.hid (hN _ HK.out)
  obtain ⟨hb1, hb3⟩ := boxesL w lo hi
  have HB1 := Lib.hid hb1
  have HB3 := Lib.hid hb3
  clear hN hb1 hb3
  go_enter Try.func62, Try.ntmps62
  go_wp2_with fail
  generalize ((w.alloc (.cells #[.int .u32 lo, .int .u32 hi] 36)).alloc (.cells #[.int .i64 0, .int .i64 0, .int .i64 0, .int .i64 0] 38)) = W3 at *
  refine HN.out.mono ?_
  rintro e w1 ⟨rfl, hk1⟩
  have H1 := Lib.hid (HB1.out.keep hk1)
  have H3 := Lib.hid (HB3.out.keep hk1)
  have HK1 := Lib.hid (HK.out.trans hk1)
  have HZ := Lib.hid (NdAt.new w1 z)
  have HKa := Lib.hid ((Keep.refl w1).alloc (.cells #[.int .i32 z.l, .int .i32 z.r, .int .i64 z.c, .int .i64 z.s, .int .i64 z.mn, .int .i64 z.mx, .bool z.k] 96))
  have l1 := H1.out.lt
  have l3 := H3.out.lt
  clear hk1 HN HB1 HB3 HK
  obtain ⟨p0, p1⟩ := H1.out.cells
  obtain ⟨a0, a1, a2, a3⟩ := H3.out.cells
  dsimp only [nil0] at a0 a1 a2 a3
  obtain ⟨f0, f1, f2, f3⟩ := H3.out.free
  have hzc : (z.c == 0) = false := by rw [beq_eq_false_iff_ne]; exact hz
  clear hz
  have hfd := HFD.out
  go_wp2_with fail
  clear p0 p1 a0 a1 a2 a3 f0 f1 f2 f3
  generalize w1.alloc (.cells #[.int .i32 z.l, .int .i32 z.r, .int .i64 z.c, .int .i64 z.s, .int .i64 z.mn, .int .i64 z.mx, .bool z.k] 96) = V at *
  refine (HSI.out V).mono ?_
  rintro e w2 ⟨rfl, hk2⟩
  have hk12 := HKa.out.trans hk2
  have H1' := Lib.hid (H1.out.keep hk12)
  have H3' := Lib.hid (H3.out.keep hk12)
  have HZ' := Lib.hid (HZ.out.keep hk2)
  have HK1' := Lib.hid (HK1.out.trans hk12)
  clear hk2 hk12 H1 H3 HZ HK1 HKa hfd hzc
  have H1 := H1'
  have H3 := H3'
  have HZ := HZ'
  have HK1 := HK1'
  clear H1' H3' HZ' HK1'
  obtain ⟨p0, p1⟩ := H1.out.cells
  obtain ⟨a0, a1, a2, a3⟩ := H3.out.cells
  dsimp only [nil0] at a0 a1 a2 a3
  obtain ⟨f0, f1, f2, f3⟩ := H3.out.free
  obtain ⟨n0, n1, n2, n3, n4, n5, n6⟩ := HZ.out.cells
  go_wp2_with fail
  go_region
  go_wp2
  have hO : Only (fun k => k = w.heap.size + 1) w2 ((((w2.setCell ⟨w.heap.size + 1, 0, none⟩ (.int .i64 z.c)).setCell ⟨w.heap.size + 1, 1, none⟩ (.int .i64 z.s)).setCell ⟨w.heap.size + 1, 2, none⟩ (.int .i64 z.mn)).setCell ⟨w.heap.size + 1, 3, none⟩ (.int .i64 z.mx)) := set_only (S := fun k => k = w.heap.size + 1) (Only.refl _ w2) rfl
  have hF := set_at H3.out (z.c) (z.s) (z.mn) (z.mx)
  have hkF := Only.keep HK1.out hO (fun k hk => by omega)
  generalize ((((w2.setCell ⟨w.heap.size + 1, 0, none⟩ (.int .i64 z.c)).setCell ⟨w.heap.size + 1, 1, none⟩ (.int .i64 z.s)).setCell ⟨w.heap.size + 1, 2, none⟩ (.int .i64 z.mn)).setCell ⟨w.heap.size + 1, 3, none⟩ (.int .i64 z.mx)) = WF at *
  obtain ⟨g0, g1, g2, g3⟩ := hF.cells
  dsimp only at g0 g1 g2 g3
  exact bodyPost_ret (v := .tuple #[.int .u32 lo, .agg #[.int .i64 (z.c), .int .i64 (z.s), .int .i64 (z.mn), .int .i64 (z.mx)]]) (by simp [results, Try.results62, go_sem, g0, g1, g2, g3]) rfl ⟨rfl, hkF.drew⟩
set_option maxRecDepth 100000 in
set_option maxHeartbeats 2000000 in
theorem least_left {b : Nat} {i lo hi fr mid k : Int} {z : Nd} {x : Ag} {w : World} (hz : z.c ≠ 0) (hf : ¬ hi < fr) (h0 : 0 ≤ lo) (h1 : lo < hi) (h2 : hi ≤ 4294967295) (hm : lo + (hi - lo) / 2 = mid) (hx : decide (0 < x.c) = true) (hN : ∀ W, Keep w W → Calls Try.prog 55 #[.pointer (some ⟨b, 0, none⟩), .int .i32 i] W fun e w' => e = .returned (.agg #[.int .i32 z.l, .int .i32 z.r, .int .i64 z.c, .int .i64 z.s, .int .i64 z.mn, .int .i64 z.mx, .bool z.k]) ∧ Keep W w')
    (hL : ∀ W, Keep w W → Calls Try.prog 62 #[.pointer (some ⟨b, 0, none⟩), .int .i32 z.l, .agg #[.int .u32 lo, .int .u32 mid], .int .u32 fr] W fun e w' => e = .returned (.tuple #[.int .u32 k, .agg #[.int .i64 x.c, .int .i64 x.s, .int .i64 x.mn, .int .i64 x.mx]]) ∧ Keep W w') :
    Calls Try.prog 62 #[.pointer (some ⟨b, 0, none⟩), .int .i32 i, .agg #[.int .u32 lo, .int .u32 hi], .int .u32 fr] w fun e w' => e = .returned (.tuple #[.int .u32 k, .agg #[.int .i64 x.c, .int .i64 x.s, .int .i64 x.mn, .int .i64 x.mx]]) ∧ Keep w w' := by
  have HSI := Lib.hid (fun W => single_is lo hi false W (by rw [beq_eq_false_iff_ne]; omega))
  have HH := Lib.hid (fun W => halves_is lo hi mid W h0 h1 h2 hm)
  have HL := Lib.hid hL
  clear hL hm h0 h1 h2
  have HFD := Lib.hid (show decide (hi < fr) = false from decide_eq_false hf)
  clear hf
  have HK := Lib.hid (((Keep.refl w).alloc (.cells #[.int .u32 lo, .int .u32 hi] 36)).alloc (.cells #[.int .i64 0, .int .i64 0, .int .i64 0, .int .i64 0] 38))
  have HN := Lib.hid (hN _ HK.out)
  obtain ⟨hb1, hb3⟩ := boxesL w lo hi
  have HB1 := Lib.hid hb1
  have HB3 := Lib.hid hb3
  clear hN hb1 hb3
  go_enter Try.func62, Try.ntmps62
  go_wp2_with fail
  generalize ((w.alloc (.cells #[.int .u32 lo, .int .u32 hi] 36)).alloc (.cells #[.int .i64 0, .int .i64 0, .int .i64 0, .int .i64 0] 38)) = W3 at *
  refine HN.out.mono ?_
  rintro e w1 ⟨rfl, hk1⟩
  have H1 := Lib.hid (HB1.out.keep hk1)
  have H3 := Lib.hid (HB3.out.keep hk1)
  have HK1 := Lib.hid (HK.out.trans hk1)
  have HZ := Lib.hid (NdAt.new w1 z)
  have HKa := Lib.hid ((Keep.refl w1).alloc (.cells #[.int .i32 z.l, .int .i32 z.r, .int .i64 z.c, .int .i64 z.s, .int .i64 z.mn, .int .i64 z.mx, .bool z.k] 96))
  have l1 := H1.out.lt
  have l3 := H3.out.lt
  clear hk1 HN HB1 HB3 HK
  obtain ⟨p0, p1⟩ := H1.out.cells
  obtain ⟨a0, a1, a2, a3⟩ := H3.out.cells
  dsimp only [nil0] at a0 a1 a2 a3
  obtain ⟨f0, f1, f2, f3⟩ := H3.out.free
  have hzc : (z.c == 0) = false := by rw [beq_eq_false_iff_ne]; exact hz
  clear hz
  have hfd := HFD.out
  go_wp2_with fail
  clear p0 p1 a0 a1 a2 a3 f0 f1 f2 f3
  generalize w1.alloc (.cells #[.int .i32 z.l, .int .i32 z.r, .int .i64 z.c, .int .i64 z.s, .int .i64 z.mn, .int .i64 z.mx, .bool z.k] 96) = V at *
  refine (HSI.out V).mono ?_
  rintro e w2 ⟨rfl, hk2⟩
  have hk12 := HKa.out.trans hk2
  have H1' := Lib.hid (H1.out.keep hk12)
  have H3' := Lib.hid (H3.out.keep hk12)
  have HZ' := Lib.hid (HZ.out.keep hk2)
  have HK1' := Lib.hid (HK1.out.trans hk12)
  clear hk2 hk12 H1 H3 HZ HK1 HKa hfd hzc
  have H1 := H1'
  have H3 := H3'
  have HZ := HZ'
  have HK1 := HK1'
  clear H1' H3' HZ' HK1'
  obtain ⟨p0, p1⟩ := H1.out.cells
  obtain ⟨a0, a1, a2, a3⟩ := H3.out.cells
  dsimp only [nil0] at a0 a1 a2 a3
  obtain ⟨f0, f1, f2, f3⟩ := H3.out.free
  obtain ⟨n0, n1, n2, n3, n4, n5, n6⟩ := HZ.out.cells
  go_wp2_with fail
  refine (HH.out w2).mono ?_
  rintro e w4 ⟨rfl, hk4⟩
  have HK4 := Lib.hid ((hk4.alloc (.cells #[.int .u32 lo, .int .u32 mid] 36)).alloc (.cells #[.int .u32 (mid + 1), .int .u32 hi] 36))
  have hs2 := SpB.new (w4.alloc (.cells #[.int .u32 lo, .int .u32 mid] 36)) (mid + 1) hi
  simp only [World.size_alloc] at hs2
  have HS2 := Lib.hid hs2
  clear p0 p1 a0 a1 a2 a3 f0 f1 f2 f3 n0 n1 n2 n3 n4 n5 n6 hs2
  obtain ⟨n0, n1, n2, n3, n4, n5, n6⟩ := (HZ.out.keep hk4).cells
  have lz' := (HZ.out.keep hk4).lt
  clear hk4
  go_wp2_with fail
  clear n0 n1 n2 n3 n4 n5 n6 lz'
  generalize (w4.alloc (.cells #[.int .u32 lo, .int .u32 mid] 36)).alloc (.cells #[.int .u32 (mid + 1), .int .u32 hi] 36) = V4 at *
  have HKV := Lib.hid (HK1.out.trans HK4.out)
  refine (HL.out _ HKV.out).mono ?_
  rintro e w5 ⟨rfl, hk5⟩
  have H3' := Lib.hid ((H3.out.keep HK4.out).keep hk5)
  have HZ' := Lib.hid ((HZ.out.keep HK4.out).keep hk5)
  have HS2' := Lib.hid (HS2.out.keep hk5)
  have HK1' := Lib.hid (HKV.out.trans hk5)
  have HX5 := Lib.hid (AgAt.new w5 x)
  have HX6 := Lib.hid ((Keep.refl w5).alloc (.cells #[.int .i64 x.c, .int .i64 x.s, .int .i64 x.mn, .int .i64 x.mx] 38))
  clear hk5 H1 H3 HZ HS2 HK1 HKV HK4
  have H3 := H3'
  have HZ := HZ'
  have HS2 := HS2'
  have HK1 := HK1'
  clear H3' HZ' HS2' HK1'
  obtain ⟨a0, a1, a2, a3⟩ := H3.out.cells
  dsimp only [nil0] at a0 a1 a2 a3
  obtain ⟨f0, f1, f2, f3⟩ := H3.out.free
  obtain ⟨n0, n1, n2, n3, n4, n5, n6⟩ := HZ.out.cells
  obtain ⟨s0, s1⟩ := HS2.out.cells
  have l3' := H3.out.lt
  have lz' := HZ.out.lt
  have ls' := HS2.out.lt
  go_wp2_with fail
  go_region
  go_wp2
  have hO : Only (fun k => k = w.heap.size + 1) w5 ((((w5.setCell ⟨w.heap.size + 1, 0, none⟩ (.int .i64 x.c)).setCell ⟨w.heap.size + 1, 1, none⟩ (.int .i64 x.s)).setCell ⟨w.heap.size + 1, 2, none⟩ (.int .i64 x.mn)).setCell ⟨w.heap.size + 1, 3, none⟩ (.int .i64 x.mx)) := set_only (S := fun k => k = w.heap.size + 1) (Only.refl _ w5) rfl
  have hF := set_at H3.out (x.c) (x.s) (x.mn) (x.mx)
  have hkF := Only.keep HK1.out hO (fun k hk => by omega)
  generalize ((((w5.setCell ⟨w.heap.size + 1, 0, none⟩ (.int .i64 x.c)).setCell ⟨w.heap.size + 1, 1, none⟩ (.int .i64 x.s)).setCell ⟨w.heap.size + 1, 2, none⟩ (.int .i64 x.mn)).setCell ⟨w.heap.size + 1, 3, none⟩ (.int .i64 x.mx)) = WF at *
  replace hF := hF.keep ((Keep.refl _).alloc (.cells #[.int .i64 x.c, .int .i64 x.s, .int .i64 x.mn, .int .i64 x.mx] 38))
  replace hkF := hkF.alloc (.cells #[.int .i64 x.c, .int .i64 x.s, .int .i64 x.mn, .int .i64 x.mx] 38)
  obtain ⟨g0, g1, g2, g3⟩ := hF.cells
  dsimp only at g0 g1 g2 g3
  exact bodyPost_ret (v := .tuple #[.int .u32 k, .agg #[.int .i64 (x.c), .int .i64 (x.s), .int .i64 (x.mn), .int .i64 (x.mx)]]) (by simp [results, Try.results62, go_sem, g0, g1, g2, g3]) rfl ⟨rfl, hkF.drew⟩
set_option maxRecDepth 100000 in
set_option maxHeartbeats 2000000 in
theorem least_right {b : Nat} {i lo hi fr mid k k2 : Int} {z : Nd} {x y : Ag} {w : World} (hz : z.c ≠ 0) (hf : ¬ hi < fr) (h0 : 0 ≤ lo) (h1 : lo < hi) (h2 : hi ≤ 4294967295) (hm : lo + (hi - lo) / 2 = mid) (hx : decide (0 < x.c) = false) (hN : ∀ W, Keep w W → Calls Try.prog 55 #[.pointer (some ⟨b, 0, none⟩), .int .i32 i] W fun e w' => e = .returned (.agg #[.int .i32 z.l, .int .i32 z.r, .int .i64 z.c, .int .i64 z.s, .int .i64 z.mn, .int .i64 z.mx, .bool z.k]) ∧ Keep W w')
    (hL : ∀ W, Keep w W → Calls Try.prog 62 #[.pointer (some ⟨b, 0, none⟩), .int .i32 z.l, .agg #[.int .u32 lo, .int .u32 mid], .int .u32 fr] W fun e w' => e = .returned (.tuple #[.int .u32 k, .agg #[.int .i64 x.c, .int .i64 x.s, .int .i64 x.mn, .int .i64 x.mx]]) ∧ Keep W w')
    (hR : ∀ W, Keep w W → Calls Try.prog 62 #[.pointer (some ⟨b, 0, none⟩), .int .i32 z.r, .agg #[.int .u32 (mid + 1), .int .u32 hi], .int .u32 fr] W fun e w' => e = .returned (.tuple #[.int .u32 k2, .agg #[.int .i64 y.c, .int .i64 y.s, .int .i64 y.mn, .int .i64 y.mx]]) ∧ Keep W w') :
    Calls Try.prog 62 #[.pointer (some ⟨b, 0, none⟩), .int .i32 i, .agg #[.int .u32 lo, .int .u32 hi], .int .u32 fr] w fun e w' => e = .returned (.tuple #[.int .u32 k2, .agg #[.int .i64 y.c, .int .i64 y.s, .int .i64 y.mn, .int .i64 y.mx]]) ∧ Keep w w' := by
  have HSI := Lib.hid (fun W => single_is lo hi false W (by rw [beq_eq_false_iff_ne]; omega))
  have HH := Lib.hid (fun W => halves_is lo hi mid W h0 h1 h2 hm)
  have HL := Lib.hid hL
  have HR := Lib.hid hR
  clear hL hR hm h0 h1 h2
  have HFD := Lib.hid (show decide (hi < fr) = false from decide_eq_false hf)
  clear hf
  have HK := Lib.hid (((Keep.refl w).alloc (.cells #[.int .u32 lo, .int .u32 hi] 36)).alloc (.cells #[.int .i64 0, .int .i64 0, .int .i64 0, .int .i64 0] 38))
  have HN := Lib.hid (hN _ HK.out)
  obtain ⟨hb1, hb3⟩ := boxesL w lo hi
  have HB1 := Lib.hid hb1
  have HB3 := Lib.hid hb3
  clear hN hb1 hb3
  go_enter Try.func62, Try.ntmps62
  go_wp2_with fail
  generalize ((w.alloc (.cells #[.int .u32 lo, .int .u32 hi] 36)).alloc (.cells #[.int .i64 0, .int .i64 0, .int .i64 0, .int .i64 0] 38)) = W3 at *
  refine HN.out.mono ?_
  rintro e w1 ⟨rfl, hk1⟩
  have H1 := Lib.hid (HB1.out.keep hk1)
  have H3 := Lib.hid (HB3.out.keep hk1)
  have HK1 := Lib.hid (HK.out.trans hk1)
  have HZ := Lib.hid (NdAt.new w1 z)
  have HKa := Lib.hid ((Keep.refl w1).alloc (.cells #[.int .i32 z.l, .int .i32 z.r, .int .i64 z.c, .int .i64 z.s, .int .i64 z.mn, .int .i64 z.mx, .bool z.k] 96))
  have l1 := H1.out.lt
  have l3 := H3.out.lt
  clear hk1 HN HB1 HB3 HK
  obtain ⟨p0, p1⟩ := H1.out.cells
  obtain ⟨a0, a1, a2, a3⟩ := H3.out.cells
  dsimp only [nil0] at a0 a1 a2 a3
  obtain ⟨f0, f1, f2, f3⟩ := H3.out.free
  have hzc : (z.c == 0) = false := by rw [beq_eq_false_iff_ne]; exact hz
  clear hz
  have hfd := HFD.out
  go_wp2_with fail
  clear p0 p1 a0 a1 a2 a3 f0 f1 f2 f3
  generalize w1.alloc (.cells #[.int .i32 z.l, .int .i32 z.r, .int .i64 z.c, .int .i64 z.s, .int .i64 z.mn, .int .i64 z.mx, .bool z.k] 96) = V at *
  refine (HSI.out V).mono ?_
  rintro e w2 ⟨rfl, hk2⟩
  have hk12 := HKa.out.trans hk2
  have H1' := Lib.hid (H1.out.keep hk12)
  have H3' := Lib.hid (H3.out.keep hk12)
  have HZ' := Lib.hid (HZ.out.keep hk2)
  have HK1' := Lib.hid (HK1.out.trans hk12)
  clear hk2 hk12 H1 H3 HZ HK1 HKa hfd hzc
  have H1 := H1'
  have H3 := H3'
  have HZ := HZ'
  have HK1 := HK1'
  clear H1' H3' HZ' HK1'
  obtain ⟨p0, p1⟩ := H1.out.cells
  obtain ⟨a0, a1, a2, a3⟩ := H3.out.cells
  dsimp only [nil0] at a0 a1 a2 a3
  obtain ⟨f0, f1, f2, f3⟩ := H3.out.free
  obtain ⟨n0, n1, n2, n3, n4, n5, n6⟩ := HZ.out.cells
  go_wp2_with fail
  refine (HH.out w2).mono ?_
  rintro e w4 ⟨rfl, hk4⟩
  have HK4 := Lib.hid ((hk4.alloc (.cells #[.int .u32 lo, .int .u32 mid] 36)).alloc (.cells #[.int .u32 (mid + 1), .int .u32 hi] 36))
  have hs2 := SpB.new (w4.alloc (.cells #[.int .u32 lo, .int .u32 mid] 36)) (mid + 1) hi
  simp only [World.size_alloc] at hs2
  have HS2 := Lib.hid hs2
  clear p0 p1 a0 a1 a2 a3 f0 f1 f2 f3 n0 n1 n2 n3 n4 n5 n6 hs2
  obtain ⟨n0, n1, n2, n3, n4, n5, n6⟩ := (HZ.out.keep hk4).cells
  have lz' := (HZ.out.keep hk4).lt
  clear hk4
  go_wp2_with fail
  clear n0 n1 n2 n3 n4 n5 n6 lz'
  generalize (w4.alloc (.cells #[.int .u32 lo, .int .u32 mid] 36)).alloc (.cells #[.int .u32 (mid + 1), .int .u32 hi] 36) = V4 at *
  have HKV := Lib.hid (HK1.out.trans HK4.out)
  refine (HL.out _ HKV.out).mono ?_
  rintro e w5 ⟨rfl, hk5⟩
  have H3' := Lib.hid ((H3.out.keep HK4.out).keep hk5)
  have HZ' := Lib.hid ((HZ.out.keep HK4.out).keep hk5)
  have HS2' := Lib.hid (HS2.out.keep hk5)
  have HK1' := Lib.hid (HKV.out.trans hk5)
  have HX5 := Lib.hid (AgAt.new w5 x)
  have HX6 := Lib.hid ((Keep.refl w5).alloc (.cells #[.int .i64 x.c, .int .i64 x.s, .int .i64 x.mn, .int .i64 x.mx] 38))
  clear hk5 H1 H3 HZ HS2 HK1 HKV HK4
  have H3 := H3'
  have HZ := HZ'
  have HS2 := HS2'
  have HK1 := HK1'
  clear H3' HZ' HS2' HK1'
  obtain ⟨a0, a1, a2, a3⟩ := H3.out.cells
  dsimp only [nil0] at a0 a1 a2 a3
  obtain ⟨f0, f1, f2, f3⟩ := H3.out.free
  obtain ⟨n0, n1, n2, n3, n4, n5, n6⟩ := HZ.out.cells
  obtain ⟨s0, s1⟩ := HS2.out.cells
  have l3' := H3.out.lt
  have lz' := HZ.out.lt
  have ls' := HS2.out.lt
  go_wp2_with fail
  clear a0 a1 a2 a3 f0 f1 f2 f3 n0 n1 n2 n3 n4 n5 n6 s0 s1 l3' lz' ls'
  have HKY := Lib.hid (HK1.out.trans HX6.out)
  have H3Y := Lib.hid (H3.out.keep HX6.out)
  clear HX5
  generalize w5.alloc (.cells #[.int .i64 x.c, .int .i64 x.s, .int .i64 x.mn, .int .i64 x.mx] 38) = V5 at *
  refine (HR.out _ HKY.out).mono ?_
  rintro e w6 ⟨rfl, hk6⟩
  clear H3 HK1
  have H3 := Lib.hid (H3Y.out.keep hk6)
  have HK1 := Lib.hid (HKY.out.trans hk6)
  obtain ⟨a0, a1, a2, a3⟩ := H3.out.cells
  dsimp only [nil0] at a0 a1 a2 a3
  obtain ⟨f0, f1, f2, f3⟩ := H3.out.free
  go_wp2
  have hO : Only (fun k => k = w.heap.size + 1) w6 ((((w6.setCell ⟨w.heap.size + 1, 0, none⟩ (.int .i64 y.c)).setCell ⟨w.heap.size + 1, 1, none⟩ (.int .i64 y.s)).setCell ⟨w.heap.size + 1, 2, none⟩ (.int .i64 y.mn)).setCell ⟨w.heap.size + 1, 3, none⟩ (.int .i64 y.mx)) := set_only (S := fun k => k = w.heap.size + 1) (Only.refl _ w6) rfl
  have hF := set_at H3.out (y.c) (y.s) (y.mn) (y.mx)
  have hkF := Only.keep HK1.out hO (fun k hk => by omega)
  generalize ((((w6.setCell ⟨w.heap.size + 1, 0, none⟩ (.int .i64 y.c)).setCell ⟨w.heap.size + 1, 1, none⟩ (.int .i64 y.s)).setCell ⟨w.heap.size + 1, 2, none⟩ (.int .i64 y.mn)).setCell ⟨w.heap.size + 1, 3, none⟩ (.int .i64 y.mx)) = WF at *
  obtain ⟨g0, g1, g2, g3⟩ := hF.cells
  dsimp only at g0 g1 g2 g3
  exact bodyPost_ret (v := .tuple #[.int .u32 k2, .agg #[.int .i64 (y.c), .int .i64 (y.s), .int .i64 (y.mn), .int .i64 (y.mx)]]) (by simp [results, Try.results62, go_sem, g0, g1, g2, g3]) rfl ⟨rfl, hkF⟩
end Go.Proofs.Ytopengbflnoneaa
