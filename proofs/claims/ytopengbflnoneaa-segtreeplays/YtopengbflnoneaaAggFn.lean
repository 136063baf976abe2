/- agg's functions: what each call answers. -/
import Derived.Test.YtopengbflnoneaaProg
import Derived.Test.YtopengbflnoneaaAggMath
import Derived.Deep.RegionHeld3
namespace Go.Proofs.Ytopengbflnoneaa
open Go.RowKit

theorem ret_ag {a b : Ag} (h : a = b) : Ending.returned (.agg #[.int .i64 a.c, .int .i64 a.s, .int .i64 a.mn, .int .i64 a.mx]) = .returned (.agg #[.int .i64 b.c, .int .i64 b.s, .int .i64 b.mn, .int .i64 b.mx]) := by rw [h]
/-- An Agg lies in block b. -/
def AgAt (w : World) (b : Nat) (a : Ag) : Prop := w.heap[b]? = some (.cells #[.int .i64 a.c, .int .i64 a.s, .int .i64 a.mn, .int .i64 a.mx] 38 (0, 0))
theorem AgAt.keep {w w' : World} {b : Nat} {a : Ag} (h : AgAt w b a) (hk : Keep w w') : AgAt w' b a := (hk.block b (Array.getElem?_eq_some_iff.1 h).1).trans h
theorem AgAt.lt {w : World} {b : Nat} {a : Ag} (h : AgAt w b a) : b < w.heap.size := (Array.getElem?_eq_some_iff.1 h).1
theorem AgAt.new (w : World) (a : Ag) : AgAt (w.alloc (.cells #[.int .i64 a.c, .int .i64 a.s, .int .i64 a.mn, .int .i64 a.mx] 38)) w.heap.size a := World.alloc_heap_new _ _
theorem AgAt.cells {w : World} {b : Nat} {a : Ag} (h : AgAt w b a) : w.cell? ⟨b, 0, none⟩ = some (.int .i64 a.c) ∧ w.cell? ⟨b, 1, none⟩ = some (.int .i64 a.s) ∧ w.cell? ⟨b, 2, none⟩ = some (.int .i64 a.mn) ∧ w.cell? ⟨b, 3, none⟩ = some (.int .i64 a.mx) := by
  unfold AgAt at h
  simp [World.cell?, h]

theorem one_any (v : Int) (w : World) :
    Calls Try.prog 51 #[.int .i64 v] w fun e w' => e = .returned (.agg #[.int .i64 (one1 v).c, .int .i64 (one1 v).s, .int .i64 (one1 v).mn, .int .i64 (one1 v).mx]) ∧ Keep w w' := by
  go_enter Try.func51, Try.ntmps51
  go_wp2
  exact bodyPost_ret (v := .agg #[.int .i64 (one1 v).c, .int .i64 (one1 v).s, .int .i64 (one1 v).mn, .int .i64 (one1 v).mx]) (by simp [results, Try.results51, go_sem, one1]) rfl ⟨rfl, (Keep.refl w).alloc _⟩

theorem nothing_is (a : Ag) (v : Bool) (w : World) (h : decide (a.c < 1) = v) :
    Calls Try.prog 69 #[.agg #[.int .i64 a.c, .int .i64 a.s, .int .i64 a.mn, .int .i64 a.mx]] w fun e w' => e = .returned (.bool v) ∧ Keep w w' := by
  go_enter Try.func69, Try.ntmps69
  go_wp2
  go_ret
  exact ⟨rfl, (Keep.refl w).alloc _⟩

theorem three_at (w : World) (a b c : Ag) : AgAt (((w.alloc (.cells #[.int .i64 a.c, .int .i64 a.s, .int .i64 a.mn, .int .i64 a.mx] 38)).alloc (.cells #[.int .i64 b.c, .int .i64 b.s, .int .i64 b.mn, .int .i64 b.mx] 38)).alloc (.cells #[.int .i64 c.c, .int .i64 c.s, .int .i64 c.mn, .int .i64 c.mx] 38)) w.heap.size a ∧ AgAt (((w.alloc (.cells #[.int .i64 a.c, .int .i64 a.s, .int .i64 a.mn, .int .i64 a.mx] 38)).alloc (.cells #[.int .i64 b.c, .int .i64 b.s, .int .i64 b.mn, .int .i64 b.mx] 38)).alloc (.cells #[.int .i64 c.c, .int .i64 c.s, .int .i64 c.mn, .int .i64 c.mx] 38)) (w.heap.size + 1) b ∧ AgAt (((w.alloc (.cells #[.int .i64 a.c, .int .i64 a.s, .int .i64 a.mn, .int .i64 a.mx] 38)).alloc (.cells #[.int .i64 b.c, .int .i64 b.s, .int .i64 b.mn, .int .i64 b.mx] 38)).alloc (.cells #[.int .i64 c.c, .int .i64 c.s, .int .i64 c.mn, .int .i64 c.mx] 38)) (w.heap.size + 2) c := by
  refine ⟨((AgAt.new w a).keep ((Keep.refl _).alloc _)).keep ((Keep.refl _).alloc _), ?_, ?_⟩
  · have := (AgAt.new (w.alloc (.cells #[.int .i64 a.c, .int .i64 a.s, .int .i64 a.mn, .int .i64 a.mx] 38)) b).keep ((Keep.refl _).alloc (.cells #[.int .i64 c.c, .int .i64 c.s, .int .i64 c.mn, .int .i64 c.mx] 38))
    simpa using this
  · have := AgAt.new ((w.alloc (.cells #[.int .i64 a.c, .int .i64 a.s, .int .i64 a.mn, .int .i64 a.mx] 38)).alloc (.cells #[.int .i64 b.c, .int .i64 b.s, .int .i64 b.mn, .int .i64 b.mx] 38)) c
    simpa using this

theorem AgAt.free {w : World} {b : Nat} {a : Ag} (h : AgAt w b a) : w.frozen? ⟨b, 0, none⟩ = false ∧ w.frozen? ⟨b, 1, none⟩ = false ∧ w.frozen? ⟨b, 2, none⟩ = false ∧ w.frozen? ⟨b, 3, none⟩ = false := by
  unfold AgAt at h
  simp [World.frozen?, h]
theorem set_only {S : Nat → Prop} {W w1 : World} {p : Nat} {x y z v : Value} (h : Only S W w1) (hp : S p) : Only S W ((((w1.setCell ⟨p, 0, none⟩ x).setCell ⟨p, 1, none⟩ y).setCell ⟨p, 2, none⟩ z).setCell ⟨p, 3, none⟩ v) :=
  (((h.setCell ⟨p, 0, none⟩ x hp).setCell ⟨p, 1, none⟩ y hp).setCell ⟨p, 2, none⟩ z hp).setCell ⟨p, 3, none⟩ v hp
theorem set_keep {W w1 : World} {p : Nat} {x y z v : Value} (h : Keep W w1) (hp : W.heap.size ≤ p) : Keep W ((((w1.setCell ⟨p, 0, none⟩ x).setCell ⟨p, 1, none⟩ y).setCell ⟨p, 2, none⟩ z).setCell ⟨p, 3, none⟩ v) :=
  Only.keep h (set_only (S := fun k => k = p) (Only.refl _ w1) rfl) (fun k hk => by omega)

theorem set_at {w : World} {b : Nat} {a : Ag} (h : AgAt w b a) (c s mn mx : Int) : AgAt ((((w.setCell ⟨b, 0, none⟩ (.int .i64 c)).setCell ⟨b, 1, none⟩ (.int .i64 s)).setCell ⟨b, 2, none⟩ (.int .i64 mn)).setCell ⟨b, 3, none⟩ (.int .i64 mx)) b ⟨c, s, mn, mx⟩ := by
  have hb := h.lt
  unfold AgAt at *
  simp only [World.setCell, Array.getElem?_modify, h, if_true, Option.map_some]
  rfl

set_option maxHeartbeats 4000000 in
theorem merge_xx (a b : Ag) (w : World) (h1 : decide (a.c < 1) = false) (h2 : decide (b.c < 1) = false) :
    Calls Try.prog 59 #[.agg #[.int .i64 a.c, .int .i64 a.s, .int .i64 a.mn, .int .i64 a.mx], .agg #[.int .i64 b.c, .int .i64 b.s, .int .i64 b.mn, .int .i64 b.mx]] w fun e w' => e = .returned (.agg #[.int .i64 (both a b).c, .int .i64 (both a b).s, .int .i64 (both a b).mn, .int .i64 (both a b).mx]) ∧ Keep w w' := by
  obtain ⟨HA, HB, HC⟩ := three_at w a b ⟨0, 0, 0, 0⟩
  have hk0 := (((Keep.refl w).alloc (.cells #[.int .i64 a.c, .int .i64 a.s, .int .i64 a.mn, .int .i64 a.mx] 38)).alloc (.cells #[.int .i64 b.c, .int .i64 b.s, .int .i64 b.mn, .int .i64 b.mx] 38)).alloc (.cells #[.int .i64 0, .int .i64 0, .int .i64 0, .int .i64 0] 38)
  obtain ⟨a0, a1, a2, a3⟩ := HA.cells
  go_enter Try.func59, Try.ntmps59
  go_wp2_with fail
  generalize ((w.alloc (.cells #[.int .i64 a.c, .int .i64 a.s, .int .i64 a.mn, .int .i64 a.mx] 38)).alloc (.cells #[.int .i64 b.c, .int .i64 b.s, .int .i64 b.mn, .int .i64 b.mx] 38)).alloc (.cells #[.int .i64 0, .int .i64 0, .int .i64 0, .int .i64 0] 38) = W0 at *
  have H := Lib.hid (And.intro HA (And.intro HB HC))
  clear HA HB HC a0 a1 a2 a3
  refine (nothing_is a false _ h1).mono ?_
  rintro e w1 ⟨rfl, hk1⟩
  obtain ⟨a0, a1, a2, a3⟩ := (H.out.1.keep hk1).cells
  obtain ⟨b0, b1, b2, b3⟩ := (H.out.2.1.keep hk1).cells
  go_wp2_with fail
  refine (nothing_is a false _ h1).mono ?_
  rintro e w2 ⟨rfl, hk2⟩
  replace hk2 := hk1.trans hk2
  clear a0 a1 a2 a3 b0 b1 b2 b3 hk1
  obtain ⟨b0, b1, b2, b3⟩ := (H.out.2.1.keep hk2).cells
  go_wp2_with fail
  refine (nothing_is b false _ h2).mono ?_
  rintro e w3 ⟨rfl, hk3⟩
  replace hk3 := hk2.trans hk3
  clear b0 b1 b2 b3 hk2 h1 h2
  obtain ⟨a0, a1, a2, a3⟩ := (H.out.1.keep hk3).cells
  obtain ⟨b0, b1, b2, b3⟩ := (H.out.2.1.keep hk3).cells
  obtain ⟨c0, c1, c2, c3⟩ := (H.out.2.2.keep hk3).cells
  obtain ⟨f0, f1, f2, f3⟩ := (H.out.2.2.keep hk3).free
  rcases Int.lt_trichotomy a.mn b.mn with hlt | heq | hgt
  · rcases Int.lt_trichotomy a.mx b.mx with hlt2 | heq2 | hgt2
    · have hv : both a b = ⟨wrap64 (a.c + b.c), wrap64 (a.s + b.s), a.mn, b.mx⟩ := by unfold both; rw [show min a.mn b.mn = a.mn by omega, show max a.mx b.mx = b.mx by omega]
      have HV := Lib.hid hv
      clear hv
      go_wp2
      exact bodyPost_ret (v := .agg #[.int .i64 (wrap64 (a.c + b.c)), .int .i64 (wrap64 (a.s + b.s)), .int .i64 a.mn, .int .i64 b.mx]) (by simp [results, Try.results59, go_sem, c0, c1, c2, c3]) rfl ⟨by rw [HV.out], set_keep (hk0.trans hk3) (by omega)⟩
    · have hv : both a b = ⟨wrap64 (a.c + b.c), wrap64 (a.s + b.s), a.mn, b.mx⟩ := by unfold both; rw [show min a.mn b.mn = a.mn by omega, show max a.mx b.mx = b.mx by omega]
      have HV := Lib.hid hv
      clear hv
      rw [heq2] at a3
      clear heq2
      go_wp2
      exact bodyPost_ret (v := .agg #[.int .i64 (wrap64 (a.c + b.c)), .int .i64 (wrap64 (a.s + b.s)), .int .i64 a.mn, .int .i64 b.mx]) (by simp [results, Try.results59, go_sem, c0, c1, c2, c3]) rfl ⟨by rw [HV.out], set_keep (hk0.trans hk3) (by omega)⟩
    · have hv : both a b = ⟨wrap64 (a.c + b.c), wrap64 (a.s + b.s), a.mn, a.mx⟩ := by unfold both; rw [show min a.mn b.mn = a.mn by omega, show max a.mx b.mx = a.mx by omega]
      have HV := Lib.hid hv
      clear hv
      go_wp2
      exact bodyPost_ret (v := .agg #[.int .i64 (wrap64 (a.c + b.c)), .int .i64 (wrap64 (a.s + b.s)), .int .i64 a.mn, .int .i64 a.mx]) (by simp [results, Try.results59, go_sem, c0, c1, c2, c3]) rfl ⟨by rw [HV.out], set_keep (hk0.trans hk3) (by omega)⟩
  · rcases Int.lt_trichotomy a.mx b.mx with hlt2 | heq2 | hgt2
    · have hv : both a b = ⟨wrap64 (a.c + b.c), wrap64 (a.s + b.s), b.mn, b.mx⟩ := by unfold both; rw [show min a.mn b.mn = b.mn by omega, show max a.mx b.mx = b.mx by omega]
      have HV := Lib.hid hv
      clear hv
      rw [heq] at a2
      clear heq
      go_wp2
      exact bodyPost_ret (v := .agg #[.int .i64 (wrap64 (a.c + b.c)), .int .i64 (wrap64 (a.s + b.s)), .int .i64 b.mn, .int .i64 b.mx]) (by simp [results, Try.results59, go_sem, c0, c1, c2, c3]) rfl ⟨by rw [HV.out], set_keep (hk0.trans hk3) (by omega)⟩
    · have hv : both a b = ⟨wrap64 (a.c + b.c), wrap64 (a.s + b.s), b.mn, b.mx⟩ := by unfold both; rw [show min a.mn b.mn = b.mn by omega, show max a.mx b.mx = b.mx by omega]
      have HV := Lib.hid hv
      clear hv
      rw [heq] at a2
      rw [heq2] at a3
      clear heq
      clear heq2
      go_wp2
      exact bodyPost_ret (v := .agg #[.int .i64 (wrap64 (a.c + b.c)), .int .i64 (wrap64 (a.s + b.s)), .int .i64 b.mn, .int .i64 b.mx]) (by simp [results, Try.results59, go_sem, c0, c1, c2, c3]) rfl ⟨by rw [HV.out], set_keep (hk0.trans hk3) (by omega)⟩
    · have hv : both a b = ⟨wrap64 (a.c + b.c), wrap64 (a.s + b.s), b.mn, a.mx⟩ := by unfold both; rw [show min a.mn b.mn = b.mn by omega, show max a.mx b.mx = a.mx by omega]
      have HV := Lib.hid hv
      clear hv
      rw [heq] at a2
      clear heq
      go_wp2
      exact bodyPost_ret (v := .agg #[.int .i64 (wrap64 (a.c + b.c)), .int .i64 (wrap64 (a.s + b.s)), .int .i64 b.mn, .int .i64 a.mx]) (by simp [results, Try.results59, go_sem, c0, c1, c2, c3]) rfl ⟨by rw [HV.out], set_keep (hk0.trans hk3) (by omega)⟩
  · rcases Int.lt_trichotomy a.mx b.mx with hlt2 | heq2 | hgt2
    · have hv : both a b = ⟨wrap64 (a.c + b.c), wrap64 (a.s + b.s), b.mn, b.mx⟩ := by unfold both; rw [show min a.mn b.mn = b.mn by omega, show max a.mx b.mx = b.mx by omega]
      have HV := Lib.hid hv
      clear hv
      go_wp2
      exact bodyPost_ret (v := .agg #[.int .i64 (wrap64 (a.c + b.c)), .int .i64 (wrap64 (a.s + b.s)), .int .i64 b.mn, .int .i64 b.mx]) (by simp [results, Try.results59, go_sem, c0, c1, c2, c3]) rfl ⟨by rw [HV.out], set_keep (hk0.trans hk3) (by omega)⟩
    · have hv : both a b = ⟨wrap64 (a.c + b.c), wrap64 (a.s + b.s), b.mn, b.mx⟩ := by unfold both; rw [show min a.mn b.mn = b.mn by omega, show max a.mx b.mx = b.mx by omega]
      have HV := Lib.hid hv
      clear hv
      rw [heq2] at a3
      clear heq2
      go_wp2
      exact bodyPost_ret (v := .agg #[.int .i64 (wrap64 (a.c + b.c)), .int .i64 (wrap64 (a.s + b.s)), .int .i64 b.mn, .int .i64 b.mx]) (by simp [results, Try.results59, go_sem, c0, c1, c2, c3]) rfl ⟨by rw [HV.out], set_keep (hk0.trans hk3) (by omega)⟩
    · have hv : both a b = ⟨wrap64 (a.c + b.c), wrap64 (a.s + b.s), b.mn, a.mx⟩ := by unfold both; rw [show min a.mn b.mn = b.mn by omega, show max a.mx b.mx = a.mx by omega]
      have HV := Lib.hid hv
      clear hv
      go_wp2
      exact bodyPost_ret (v := .agg #[.int .i64 (wrap64 (a.c + b.c)), .int .i64 (wrap64 (a.s + b.s)), .int .i64 b.mn, .int .i64 a.mx]) (by simp [results, Try.results59, go_sem, c0, c1, c2, c3]) rfl ⟨by rw [HV.out], set_keep (hk0.trans hk3) (by omega)⟩

set_option maxHeartbeats 1000000 in
theorem merge_xo (a b : Ag) (w : World) (h1 : decide (a.c < 1) = false) (h2 : decide (b.c < 1) = true) :
    Calls Try.prog 59 #[.agg #[.int .i64 a.c, .int .i64 a.s, .int .i64 a.mn, .int .i64 a.mx], .agg #[.int .i64 b.c, .int .i64 b.s, .int .i64 b.mn, .int .i64 b.mx]] w fun e w' => e = .returned (.agg #[.int .i64 a.c, .int .i64 a.s, .int .i64 a.mn, .int .i64 a.mx]) ∧ Keep w w' := by
  obtain ⟨HA, HB, HC⟩ := three_at w a b ⟨0, 0, 0, 0⟩
  have hk0 := (((Keep.refl w).alloc (.cells #[.int .i64 a.c, .int .i64 a.s, .int .i64 a.mn, .int .i64 a.mx] 38)).alloc (.cells #[.int .i64 b.c, .int .i64 b.s, .int .i64 b.mn, .int .i64 b.mx] 38)).alloc (.cells #[.int .i64 0, .int .i64 0, .int .i64 0, .int .i64 0] 38)
  obtain ⟨a0, a1, a2, a3⟩ := HA.cells
  go_enter Try.func59, Try.ntmps59
  go_wp2_with fail
  generalize ((w.alloc (.cells #[.int .i64 a.c, .int .i64 a.s, .int .i64 a.mn, .int .i64 a.mx] 38)).alloc (.cells #[.int .i64 b.c, .int .i64 b.s, .int .i64 b.mn, .int .i64 b.mx] 38)).alloc (.cells #[.int .i64 0, .int .i64 0, .int .i64 0, .int .i64 0] 38) = W0 at *
  have H := Lib.hid (And.intro HA (And.intro HB HC))
  clear HA HB HC a0 a1 a2 a3
  refine (nothing_is a false _ h1).mono ?_
  rintro e w1 ⟨rfl, hk1⟩
  obtain ⟨a0, a1, a2, a3⟩ := (H.out.1.keep hk1).cells
  obtain ⟨b0, b1, b2, b3⟩ := (H.out.2.1.keep hk1).cells
  go_wp2_with fail
  refine (nothing_is a false _ h1).mono ?_
  rintro e w2 ⟨rfl, hk2⟩
  replace hk2 := hk1.trans hk2
  clear a0 a1 a2 a3 b0 b1 b2 b3 hk1
  obtain ⟨b0, b1, b2, b3⟩ := (H.out.2.1.keep hk2).cells
  go_wp2_with fail
  refine (nothing_is b true _ h2).mono ?_
  rintro e w3 ⟨rfl, hk3⟩
  replace hk3 := hk2.trans hk3
  clear b0 b1 b2 b3 hk2 h1 h2
  obtain ⟨a0, a1, a2, a3⟩ := (H.out.1.keep hk3).cells
  obtain ⟨b0, b1, b2, b3⟩ := (H.out.2.1.keep hk3).cells
  obtain ⟨c0, c1, c2, c3⟩ := (H.out.2.2.keep hk3).cells
  obtain ⟨f0, f1, f2, f3⟩ := (H.out.2.2.keep hk3).free
  go_wp2
  exact bodyPost_ret (v := .agg #[.int .i64 a.c, .int .i64 a.s, .int .i64 a.mn, .int .i64 a.mx]) (by simp [results, Try.results59, go_sem, c0, c1, c2, c3]) rfl ⟨rfl, set_keep (hk0.trans hk3) (by omega)⟩

set_option maxHeartbeats 1000000 in
theorem merge_ox (a b : Ag) (w : World) (h1 : decide (a.c < 1) = true) (h2 : decide (b.c < 1) = false) :
    Calls Try.prog 59 #[.agg #[.int .i64 a.c, .int .i64 a.s, .int .i64 a.mn, .int .i64 a.mx], .agg #[.int .i64 b.c, .int .i64 b.s, .int .i64 b.mn, .int .i64 b.mx]] w fun e w' => e = .returned (.agg #[.int .i64 b.c, .int .i64 b.s, .int .i64 b.mn, .int .i64 b.mx]) ∧ Keep w w' := by
  obtain ⟨HA, HB, HC⟩ := three_at w a b ⟨0, 0, 0, 0⟩
  have hk0 := (((Keep.refl w).alloc (.cells #[.int .i64 a.c, .int .i64 a.s, .int .i64 a.mn, .int .i64 a.mx] 38)).alloc (.cells #[.int .i64 b.c, .int .i64 b.s, .int .i64 b.mn, .int .i64 b.mx] 38)).alloc (.cells #[.int .i64 0, .int .i64 0, .int .i64 0, .int .i64 0] 38)
  obtain ⟨a0, a1, a2, a3⟩ := HA.cells
  go_enter Try.func59, Try.ntmps59
  go_wp2_with fail
  generalize ((w.alloc (.cells #[.int .i64 a.c, .int .i64 a.s, .int .i64 a.mn, .int .i64 a.mx] 38)).alloc (.cells #[.int .i64 b.c, .int .i64 b.s, .int .i64 b.mn, .int .i64 b.mx] 38)).alloc (.cells #[.int .i64 0, .int .i64 0, .int .i64 0, .int .i64 0] 38) = W0 at *
  have H := Lib.hid (And.intro HA (And.intro HB HC))
  clear HA HB HC a0 a1 a2 a3
  refine (nothing_is a true _ h1).mono ?_
  rintro e w1 ⟨rfl, hk1⟩
  obtain ⟨a0, a1, a2, a3⟩ := (H.out.1.keep hk1).cells
  obtain ⟨b0, b1, b2, b3⟩ := (H.out.2.1.keep hk1).cells
  go_wp2_with fail
  refine (nothing_is b false _ h2).mono ?_
  rintro e w2 ⟨rfl, hk2⟩
  replace hk2 := hk1.trans hk2
  clear a0 a1 a2 a3 b0 b1 b2 b3 hk1
  obtain ⟨a0, a1, a2, a3⟩ := (H.out.1.keep hk2).cells
  go_wp2_with fail
  refine (nothing_is a true _ h1).mono ?_
  rintro e w3 ⟨rfl, hk3⟩
  replace hk3 := hk2.trans hk3
  clear a0 a1 a2 a3 hk2 h1 h2
  obtain ⟨a0, a1, a2, a3⟩ := (H.out.1.keep hk3).cells
  obtain ⟨b0, b1, b2, b3⟩ := (H.out.2.1.keep hk3).cells
  obtain ⟨c0, c1, c2, c3⟩ := (H.out.2.2.keep hk3).cells
  obtain ⟨f0, f1, f2, f3⟩ := (H.out.2.2.keep hk3).free
  go_wp2
  exact bodyPost_ret (v := .agg #[.int .i64 b.c, .int .i64 b.s, .int .i64 b.mn, .int .i64 b.mx]) (by simp [results, Try.results59, go_sem, c0, c1, c2, c3]) rfl ⟨rfl, set_keep (hk0.trans hk3) (by omega)⟩

set_option maxHeartbeats 1000000 in
theorem merge_oo (a b : Ag) (w : World) (h1 : decide (a.c < 1) = true) (h2 : decide (b.c < 1) = true) :
    Calls Try.prog 59 #[.agg #[.int .i64 a.c, .int .i64 a.s, .int .i64 a.mn, .int .i64 a.mx], .agg #[.int .i64 b.c, .int .i64 b.s, .int .i64 b.mn, .int .i64 b.mx]] w fun e w' => e = .returned (.agg #[.int .i64 nil0.c, .int .i64 nil0.s, .int .i64 nil0.mn, .int .i64 nil0.mx]) ∧ Keep w w' := by
  obtain ⟨HA, HB, HC⟩ := three_at w a b ⟨0, 0, 0, 0⟩
  have hk0 := (((Keep.refl w).alloc (.cells #[.int .i64 a.c, .int .i64 a.s, .int .i64 a.mn, .int .i64 a.mx] 38)).alloc (.cells #[.int .i64 b.c, .int .i64 b.s, .int .i64 b.mn, .int .i64 b.mx] 38)).alloc (.cells #[.int .i64 0, .int .i64 0, .int .i64 0, .int .i64 0] 38)
  obtain ⟨a0, a1, a2, a3⟩ := HA.cells
  go_enter Try.func59, Try.ntmps59
  go_wp2_with fail
  generalize ((w.alloc (.cells #[.int .i64 a.c, .int .i64 a.s, .int .i64 a.mn, .int .i64 a.mx] 38)).alloc (.cells #[.int .i64 b.c, .int .i64 b.s, .int .i64 b.mn, .int .i64 b.mx] 38)).alloc (.cells #[.int .i64 0, .int .i64 0, .int .i64 0, .int .i64 0] 38) = W0 at *
  have H := Lib.hid (And.intro HA (And.intro HB HC))
  clear HA HB HC a0 a1 a2 a3
  refine (nothing_is a true _ h1).mono ?_
  rintro e w1 ⟨rfl, hk1⟩
  obtain ⟨a0, a1, a2, a3⟩ := (H.out.1.keep hk1).cells
  obtain ⟨b0, b1, b2, b3⟩ := (H.out.2.1.keep hk1).cells
  go_wp2_with fail
  refine (nothing_is b true _ h2).mono ?_
  rintro e w3 ⟨rfl, hk3⟩
  replace hk3 := hk1.trans hk3
  clear a0 a1 a2 a3 b0 b1 b2 b3 hk1 h1 h2
  obtain ⟨a0, a1, a2, a3⟩ := (H.out.1.keep hk3).cells
  obtain ⟨b0, b1, b2, b3⟩ := (H.out.2.1.keep hk3).cells
  obtain ⟨c0, c1, c2, c3⟩ := (H.out.2.2.keep hk3).cells
  obtain ⟨f0, f1, f2, f3⟩ := (H.out.2.2.keep hk3).free
  go_wp2
  exact bodyPost_ret (v := .agg #[.int .i64 0, .int .i64 0, .int .i64 0, .int .i64 0]) (by simp [results, Try.results59, go_sem, c0, c1, c2, c3]) rfl ⟨rfl, set_keep (hk0.trans hk3) (by omega)⟩

theorem merge_any (a b : Ag) (w : World) : Calls Try.prog 59 #[.agg #[.int .i64 a.c, .int .i64 a.s, .int .i64 a.mn, .int .i64 a.mx], .agg #[.int .i64 b.c, .int .i64 b.s, .int .i64 b.mn, .int .i64 b.mx]] w fun e w' => e = .returned (.agg #[.int .i64 (mrg a b).c, .int .i64 (mrg a b).s, .int .i64 (mrg a b).mn, .int .i64 (mrg a b).mx]) ∧ Keep w w' := by
  by_cases h1 : a.c < 1
  · by_cases h2 : b.c < 1
    · rw [mrg_oo h1 h2]; exact merge_oo a b w (decide_eq_true h1) (decide_eq_true h2)
    · rw [mrg_ox h1 h2]; exact merge_ox a b w (decide_eq_true h1) (decide_eq_false h2)
  · by_cases h2 : b.c < 1
    · rw [mrg_xo h1 h2]; exact merge_xo a b w (decide_eq_false h1) (decide_eq_true h2)
    · rw [mrg_xx h1 h2]; exact merge_xx a b w (decide_eq_false h1) (decide_eq_false h2)
end Go.Proofs.Ytopengbflnoneaa
