/- The document's own Merge, at a seat without the rest of agg. -/
import Derived.Test.YtopengbflnoneaaAggFn
namespace Go.Proofs.Ytopengbflnoneaa
open Go.RowKit

theorem keep4 (w : World) (o1 o2 o3 o4 : Obj) : Keep w ((((w.alloc o1).alloc o2).alloc o3).alloc o4) := ((((Keep.refl w).alloc _).alloc _).alloc _).alloc _
theorem keep3 (w : World) (o1 o2 o3 : Obj) : Keep w (((w.alloc o1).alloc o2).alloc o3) := (((Keep.refl w).alloc _).alloc _).alloc _
set_option maxHeartbeats 1000000 in
theorem rmerge_oo (a b : Ag) (w : World) (h1 : decide (a.c < 1) = true) (h2 : decide (b.c < 1) = true) :
    Calls Try.prog 24 #[.agg #[.int .i64 a.c, .int .i64 a.s, .int .i64 a.mn, .int .i64 a.mx], .agg #[.int .i64 b.c, .int .i64 b.s, .int .i64 b.mn, .int .i64 b.mx]] w fun e w' => e = .returned (.agg #[.int .i64 nil0.c, .int .i64 nil0.s, .int .i64 nil0.mn, .int .i64 nil0.mx]) ∧ Keep w w' := by
  go_enter Try.func24, Try.ntmps24
  go_wp2
  exact bodyPost_ret (v := .agg #[.int .i64 0, .int .i64 0, .int .i64 0, .int .i64 0]) (by simp [results, Try.results24, go_sem]) rfl ⟨rfl, keep3 _ _ _ _⟩
set_option maxHeartbeats 1000000 in
theorem rmerge_xo (a b : Ag) (w : World) (h1 : decide (a.c < 1) = false) (h2 : decide (b.c < 1) = true) :
    Calls Try.prog 24 #[.agg #[.int .i64 a.c, .int .i64 a.s, .int .i64 a.mn, .int .i64 a.mx], .agg #[.int .i64 b.c, .int .i64 b.s, .int .i64 b.mn, .int .i64 b.mx]] w fun e w' => e = .returned (.agg #[.int .i64 a.c, .int .i64 a.s, .int .i64 a.mn, .int .i64 a.mx]) ∧ Keep w w' := by
  go_enter Try.func24, Try.ntmps24
  go_wp2
  exact bodyPost_ret (v := .agg #[.int .i64 a.c, .int .i64 a.s, .int .i64 a.mn, .int .i64 a.mx]) (by simp [results, Try.results24, go_sem]) rfl ⟨rfl, keep3 _ _ _ _⟩
set_option maxHeartbeats 1000000 in
theorem rmerge_ox (a b : Ag) (w : World) (h1 : decide (a.c < 1) = true) (h2 : decide (b.c < 1) = false) :
    Calls Try.prog 24 #[.agg #[.int .i64 a.c, .int .i64 a.s, .int .i64 a.mn, .int .i64 a.mx], .agg #[.int .i64 b.c, .int .i64 b.s, .int .i64 b.mn, .int .i64 b.mx]] w fun e w' => e = .returned (.agg #[.int .i64 b.c, .int .i64 b.s, .int .i64 b.mn, .int .i64 b.mx]) ∧ Keep w w' := by
  go_enter Try.func24, Try.ntmps24
  go_wp2
  exact bodyPost_ret (v := .agg #[.int .i64 b.c, .int .i64 b.s, .int .i64 b.mn, .int .i64 b.mx]) (by simp [results, Try.results24, go_sem]) rfl ⟨rfl, keep3 _ _ _ _⟩
set_option maxHeartbeats 2000000 in
theorem rmerge_xx (a b : Ag) (w : World) (h1 : decide (a.c < 1) = false) (h2 : decide (b.c < 1) = false) :
    Calls Try.prog 24 #[.agg #[.int .i64 a.c, .int .i64 a.s, .int .i64 a.mn, .int .i64 a.mx], .agg #[.int .i64 b.c, .int .i64 b.s, .int .i64 b.mn, .int .i64 b.mx]] w fun e w' => e = .returned (.agg #[.int .i64 (both a b).c, .int .i64 (both a b).s, .int .i64 (both a b).mn, .int .i64 (both a b).mx]) ∧ Keep w w' := by
  by_cases h3 : b.mn < a.mn
  · by_cases h4 : b.mx > a.mx
    · have HV := Lib.hid (show both a b = ⟨wrap64 (a.c + b.c), wrap64 (a.s + b.s), b.mn, b.mx⟩ by unfold both; rw [show min a.mn b.mn = b.mn by omega, show max a.mx b.mx = b.mx by omega])
      go_enter Try.func24, Try.ntmps24
      go_wp2
      exact bodyPost_ret (v := .agg #[.int .i64 (wrap64 (a.c + b.c)), .int .i64 (wrap64 (a.s + b.s)), .int .i64 b.mn, .int .i64 b.mx]) (by simp [results, Try.results24, go_sem]) rfl ⟨by rw [HV.out], keep4 _ _ _ _ _⟩
    · have HV := Lib.hid (show both a b = ⟨wrap64 (a.c + b.c), wrap64 (a.s + b.s), b.mn, a.mx⟩ by unfold both; rw [show min a.mn b.mn = b.mn by omega, show max a.mx b.mx = a.mx by omega])
      go_enter Try.func24, Try.ntmps24
      go_wp2
      exact bodyPost_ret (v := .agg #[.int .i64 (wrap64 (a.c + b.c)), .int .i64 (wrap64 (a.s + b.s)), .int .i64 b.mn, .int .i64 a.mx]) (by simp [results, Try.results24, go_sem]) rfl ⟨by rw [HV.out], keep4 _ _ _ _ _⟩
  · by_cases h4 : b.mx > a.mx
    · have HV := Lib.hid (show both a b = ⟨wrap64 (a.c + b.c), wrap64 (a.s + b.s), a.mn, b.mx⟩ by unfold both; rw [show min a.mn b.mn = a.mn by omega, show max a.mx b.mx = b.mx by omega])
      go_enter Try.func24, Try.ntmps24
      go_wp2
      exact bodyPost_ret (v := .agg #[.int .i64 (wrap64 (a.c + b.c)), .int .i64 (wrap64 (a.s + b.s)), .int .i64 a.mn, .int .i64 b.mx]) (by simp [results, Try.results24, go_sem]) rfl ⟨by rw [HV.out], keep4 _ _ _ _ _⟩
    · have HV := Lib.hid (show both a b = ⟨wrap64 (a.c + b.c), wrap64 (a.s + b.s), a.mn, a.mx⟩ by unfold both; rw [show min a.mn b.mn = a.mn by omega, show max a.mx b.mx = a.mx by omega])
      go_enter Try.func24, Try.ntmps24
      go_wp2
      exact bodyPost_ret (v := .agg #[.int .i64 (wrap64 (a.c + b.c)), .int .i64 (wrap64 (a.s + b.s)), .int .i64 a.mn, .int .i64 a.mx]) (by simp [results, Try.results24, go_sem]) rfl ⟨by rw [HV.out], keep4 _ _ _ _ _⟩
theorem rmerge_any (a b : Ag) (w : World) : Calls Try.prog 24 #[.agg #[.int .i64 a.c, .int .i64 a.s, .int .i64 a.mn, .int .i64 a.mx], .agg #[.int .i64 b.c, .int .i64 b.s, .int .i64 b.mn, .int .i64 b.mx]] w fun e w' => e = .returned (.agg #[.int .i64 (mrg a b).c, .int .i64 (mrg a b).s, .int .i64 (mrg a b).mn, .int .i64 (mrg a b).mx]) ∧ Keep w w' := by
  by_cases h1 : a.c < 1
  · by_cases h2 : b.c < 1
    · rw [mrg_oo h1 h2]; exact rmerge_oo a b w (decide_eq_true h1) (decide_eq_true h2)
    · rw [mrg_ox h1 h2]; exact rmerge_ox a b w (decide_eq_true h1) (decide_eq_false h2)
  · by_cases h2 : b.c < 1
    · rw [mrg_xo h1 h2]; exact rmerge_xo a b w (decide_eq_false h1) (decide_eq_true h2)
    · rw [mrg_xx h1 h2]; exact rmerge_xx a b w (decide_eq_false h1) (decide_eq_false h2)

/-! Avg. -/
end Go.Proofs.Ytopengbflnoneaa
