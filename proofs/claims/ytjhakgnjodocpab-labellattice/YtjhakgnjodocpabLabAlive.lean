/- The law's own example: it says true. -/
import Derived.Test.YtjhakgnjodocpabLabFrom
namespace Go.Proofs.Ytjhakgnjodocpab
open Go.RowKit

theorem la_ok : (⟨2, 1⟩ : Lb).ok := by unfold Lb.ok; decide
theorem lb_ok : (⟨1, 0⟩ : Lb).ok := by unfold Lb.ok; decide
theorem c_dab (w : World) : Calls Try.prog 11 #[.agg #[.int .u8 2, .int .u16 1], .agg #[.int .u8 1, .int .u16 0]] w fun e w' => e = .returned (.bool true) ∧ Keep w w' := by
  have h := dom_any ⟨2, 1⟩ ⟨1, 0⟩ w la_ok lb_ok
  rw [show dm ⟨2, 1⟩ ⟨1, 0⟩ = true from by decide +kernel] at h
  exact h
theorem c_dba (w : World) : Calls Try.prog 11 #[.agg #[.int .u8 1, .int .u16 0], .agg #[.int .u8 2, .int .u16 1]] w fun e w' => e = .returned (.bool false) ∧ Keep w w' := by
  have h := dom_any ⟨1, 0⟩ ⟨2, 1⟩ w lb_ok la_ok
  rw [show dm ⟨1, 0⟩ ⟨2, 1⟩ = false from by decide +kernel] at h
  exact h
theorem c_join (w : World) : Calls Try.prog 13 #[.agg #[.int .u8 2, .int .u16 1], .agg #[.int .u8 1, .int .u16 0]] w fun e w' => e = .returned (.agg #[.int .u8 2, .int .u16 1]) ∧ Keep w w' := join_any ⟨2, 1⟩ ⟨1, 0⟩ w la_ok lb_ok
theorem c_meet (w : World) : Calls Try.prog 15 #[.agg #[.int .u8 2, .int .u16 1], .agg #[.int .u8 1, .int .u16 0]] w fun e w' => e = .returned (.agg #[.int .u8 1, .int .u16 0]) ∧ Keep w w' := meet_any ⟨2, 1⟩ ⟨1, 0⟩ w la_ok lb_ok
theorem c_check (w : World) : Calls Try.prog 17 #[.agg #[.int .u8 2, .int .u16 1]] w fun e w' => e = .returned (.int .i64 0) ∧ Keep w w' := check_any ⟨2, 1⟩ w
theorem c_check16 (w : World) : Calls Try.prog 17 #[.agg #[.int .u8 16, .int .u16 0]] w fun e w' => e = .returned (.int .i64 23) ∧ Keep w w' := check_any ⟨16, 0⟩ w
theorem c_num (w : World) : Calls Try.prog 18 #[.agg #[.int .u8 2, .int .u16 1]] w fun e w' => e = .returned (.int .u64 131073) ∧ Keep w w' := number_any ⟨2, 1⟩ w la_ok
theorem c_less (w : World) : Calls Try.prog 20 #[.agg #[.int .u8 1, .int .u16 0], .agg #[.int .u8 2, .int .u16 1]] w fun e w' => e = .returned (.bool true) ∧ Keep w w' := by
  have h := less_any ⟨1, 0⟩ ⟨2, 1⟩ w lb_ok la_ok
  rw [show decide (nm ⟨1, 0⟩ < nm ⟨2, 1⟩) = true from by decide +kernel] at h
  exact h
theorem c_from (w : World) : Calls Try.prog 9 #[.int .u64 131073] w fun e w' => e = .returned (.tuple #[.agg #[.int .u8 2, .int .u16 1], .int .i64 0]) ∧ Keep w w' := by
  have h := from_any 131073 w (by decide)
  rw [show frL 131073 = ⟨2, 1⟩ from eqL_iff.1 (by decide +kernel), show frE 131073 = 0 from by decide +kernel] at h
  exact h
theorem c_from20 (w : World) : Calls Try.prog 9 #[.int .u64 1048576] w fun e w' => e = .returned (.tuple #[.agg #[.int .u8 0, .int .u16 0], .int .i64 23]) ∧ Keep w w' := by
  have h := from_any 1048576 w (by decide)
  rw [show frL 1048576 = ⟨0, 0⟩ from eqL_iff.1 (by decide +kernel), show frE 1048576 = 23 from by decide +kernel] at h
  exact h

set_option maxRecDepth 100000 in
set_option maxHeartbeats 2000000 in
theorem alive_any (w : World) : Calls Try.prog 8 #[] w fun e w' => e = .returned (.bool true) ∧ Keep w w' := by
  have q1 := equalIn_lb
  have q2 := eq4_self
  go_enter Try.func8, Try.ntmps8
  go_wp2_with fail
  refine (c_num _).mono ?_
  rintro e w1 ⟨rfl, hk1⟩
  have h1a : LbAt w1 w.heap.size ⟨2, 1⟩ := LbAt.keep ((LbAt.new w ⟨2, 1⟩).keep ((Keep.refl _).alloc (.cells #[.int .u8 1, .int .u16 0] 24))) hk1
  have h1b : LbAt w1 (w.heap.size + 1) ⟨1, 0⟩ := by
    have := LbAt.new (w.alloc (.cells #[.int .u8 2, .int .u16 1] 24)) ⟨1, 0⟩
    rw [World.size_alloc] at this
    exact this.keep hk1
  have hk01 : Keep w w1 := (((Keep.refl w).alloc _).alloc _).trans hk1
  have hz1 := hk1.size
  simp only [World.size_alloc] at hz1
  clear hk1
  go_wp2_with fail
  refine (c_from _).mono ?_
  rintro e w2 ⟨rfl, hk2⟩
  have h2a := h1a.keep hk2
  have h2b := h1b.keep hk2
  have hk02 := hk01.trans hk2
  have hz2 := hk2.size
  clear h1a h1b hk01 hk2
  go_wp2_with fail
  refine (c_from20 _).mono ?_
  rintro e w3 ⟨rfl, hk3⟩
  have h3a := (h2a.keep ((Keep.refl _).alloc (.cells #[.int .u8 2, .int .u16 1] 24))).keep hk3
  have h3b := (h2b.keep ((Keep.refl _).alloc (.cells #[.int .u8 2, .int .u16 1] 24))).keep hk3
  have h3c := (LbAt.new w2 ⟨2, 1⟩).keep hk3
  have hk03 := (hk02.alloc (.cells #[.int .u8 2, .int .u16 1] 24)).trans hk3
  clear h2a h2b hk02 hk3
  go_wp2_with fail
  have hka := (Keep.refl w3).alloc (.cells #[.int .u8 0, .int .u16 0] 24)
  have h4a := h3a.keep hka
  have h4b := h3b.keep hka
  have h4c := h3c.keep hka
  have hk04 := hk03.trans hka
  generalize w3.alloc (.cells #[.int .u8 0, .int .u16 0] 24) = W0 at *
  have HA := Lib.hid h4a
  have HB := Lib.hid h4b
  have HC := Lib.hid h4c
  clear h3a h3b h3c hka hk03 h4a h4b h4c
  have hK := Keep.refl W0
  go_region_held3 (fun w' => (w'.cell? ⟨w.heap.size, 0, none⟩ = some (.int .u8 2) ∧ w'.cell? ⟨w.heap.size, 1, none⟩ = some (.int .u16 1)) ∧ (w'.cell? ⟨w.heap.size + 1, 0, none⟩ = some (.int .u8 1) ∧ w'.cell? ⟨w.heap.size + 1, 1, none⟩ = some (.int .u16 0)) ∧ (w'.cell? ⟨w2.heap.size, 0, none⟩ = some (.int .u8 2) ∧ w'.cell? ⟨w2.heap.size, 1, none⟩ = some (.int .u16 1))) (exact ⟨(HA.out.keep hK).cells, (HB.out.keep hK).cells, (HC.out.keep hK).cells⟩)
    (first
      | (go_at_call 11; ((with_reducible refine (c_dab _).mono ?_); rintro e w1 ⟨rfl, hk1⟩; (first | have hK := hK.trans hk1 | have hK := hK.drew.trans hk1)))
      | (go_at_call 11; ((with_reducible refine (c_dba _).mono ?_); rintro e w1 ⟨rfl, hk1⟩; (first | have hK := hK.trans hk1 | have hK := hK.drew.trans hk1)))
      | (go_at_call 13; ((with_reducible refine (c_join _).mono ?_); rintro e w1 ⟨rfl, hk1⟩; (first | have hK := hK.trans hk1 | have hK := hK.drew.trans hk1)))
      | (go_at_call 15; ((with_reducible refine (c_meet _).mono ?_); rintro e w1 ⟨rfl, hk1⟩; (first | have hK := hK.trans hk1 | have hK := hK.drew.trans hk1)))
      | (go_at_call 17; ((with_reducible refine (c_check _).mono ?_); rintro e w1 ⟨rfl, hk1⟩; (first | have hK := hK.trans hk1 | have hK := hK.drew.trans hk1)))
      | (go_at_call 17; ((with_reducible refine (c_check16 _).mono ?_); rintro e w1 ⟨rfl, hk1⟩; (first | have hK := hK.trans hk1 | have hK := hK.drew.trans hk1)))
      | (go_at_call 18; ((with_reducible refine (c_num _).mono ?_); rintro e w1 ⟨rfl, hk1⟩; (first | have hK := hK.trans hk1 | have hK := hK.drew.trans hk1)))
      | (go_at_call 20; ((with_reducible refine (c_less _).mono ?_); rintro e w1 ⟨rfl, hk1⟩; (first | have hK := hK.trans hk1 | have hK := hK.drew.trans hk1))))
  go_wp2
  go_ret
  exact ⟨rfl, hk04.trans hK⟩
end Go.Proofs.Ytjhakgnjodocpab
