/- The walk of FrameWraps. -/
import Derived.Test.YtjhakgnjodocpaaFrmRef
import Derived.Test.YtjhakgnjodocpaaArr2
import Derived.OpenShut
namespace Go.Proofs.Ytjhakgnjodocpaa
open Go.RowKit

set_option maxRecDepth 100000 in
set_option maxHeartbeats 2000000 in
theorem wraps_core (A : Option Addr) (n c : Nat) (xs : List Int) (w : World) (hy : By w w.heap.size A n c xs) (hn : n ≤ 3000) :
    Calls Try.prog 4 #[.slice A n c] w fun e w' => e = .returned (.bool true) ∧ Keep w w' := by
  have hd1 : decide (3000 < (n : Int)) = false := by simp; omega
  have HY := Lib.hid hy
  clear hy
  go_enter Try.func4, Try.ntmps4
  go_wp2_with (first
    | (go_at_call 9; refine (alive_any _).mono ?_; rintro e w1 ⟨rfl, hk1⟩))
  have HY1 := Lib.hid (HY.out.keep hk1 (Nat.le_refl _))
  by_cases h : 1024 < n
  · refine (wrap_no A n c w1 h (by omega)).mono ?_
    rintro e w2 ⟨rfl, hk2⟩
    have hk12 := hk1.trans hk2
    clear hk1 hk2
    go_wp2_with fail
    refine (rwrap_no A n c w2 h (by omega)).mono ?_
    rintro e w3 ⟨rfl, hk3⟩
    have hk := hk12.trans hk3
    go_wp2_with (first
      | (go_at_call 14; refine (same_is none 0 0 none 0 0 [] [] _ 0 0 ⟨rfl, fun h => by omega⟩ ⟨rfl, fun h => by omega⟩ rfl).mono ?_; rintro e w' ⟨rfl, rfl⟩))
    go_ret
    exact ⟨rfl, hk⟩
  · have hn' : n ≤ 1024 := by omega
    refine (wrap_yes A n c xs w1 w.heap.size hk1.size HY1.out hn').mono ?_
    rintro e w2 ⟨v2, rfl, hr2, hk2⟩
    have hk12 := hk1.trans hk2
    obtain ⟨A2, c2, rfl, hy2⟩ := By.of_row hr2
    have HZ := Lib.hid hy2
    have HY2 := Lib.hid (HY1.out.keep hk2 hk1.size)
    have hs2 := hk12.size
    clear hk1 hk2 hr2 hy2
    go_wp2_with fail
    refine (rwrap_yes A n c xs w2 w.heap.size hs2 HY2.out hn').mono ?_
    rintro e w3 ⟨v3, rfl, hr3, hk3⟩
    obtain ⟨A3, c3, rfl, hy3⟩ := By.of_row hr3
    have HZ3 := Lib.hid (HZ.out.keep hk3 (Nat.le_refl _))
    have HV3 := Lib.hid hy3
    have hk := hk12.trans hk3
    clear hr3 hy3 hk3 HZ
    generalize (frm xs).length = l at *
    generalize frm xs = fs at *
    go_wp2_with (first
      | (go_at_call 14; refine (same_is A2 l c2 A3 l c3 fs fs _ _ _ HZ3.out.lies HV3.out.lies rfl).mono ?_; rintro e w' ⟨rfl, rfl⟩))
    go_ret
    exact ⟨rfl, hk⟩

set_option maxHeartbeats 1000000 in
theorem wraps_long (A : Option Addr) (n c : Nat) (w : World) (h : decide (3000 < (n : Int)) = true) :
    Calls Try.prog 4 #[.slice A n c] w fun e w' => e = .returned (.bool true) ∧ Keep w w' := by
  go_enter Try.func4, Try.ntmps4
  go_wp2_with (go_at_call 9; refine (alive_any _).mono ?_; rintro e w0 ⟨rfl, hk0⟩)
  go_ret
  exact ⟨rfl, hk0⟩

theorem FrameWraps_std (a0 : Option Addr) (l0 c0 : Nat) (z0 : List Int) (w : World) (h0 : Arr .u8 w a0 l0 z0) (hc : l0 ≤ c0 ∧ (a0 = none → c0 = 0)) :
    Calls Try.prog 4 #[.slice a0 l0 c0] w fun e w' => e = .returned (.bool true) ∧ Below w.heap.size w w' := by
  by_cases hn : l0 ≤ 3000
  · exact wraps_core a0 l0 c0 z0 w ⟨h0.2.1, hc.1, hc.2⟩ hn
  · exact wraps_long a0 l0 c0 w (by simp; omega)
end Go.Proofs.Ytjhakgnjodocpaa
