/- fit.Sign, at whatever numbers. -/
import Derived.Test.YtoilbmhijjkkaabProg
import Derived.Test.YtoilbmhijjkkaabMem
import Derived.Test.YtoilbmhijjkkaabFitIntMath
namespace Go.Proofs.Ytoilbmhijjkkaab
open Go.RowKit

theorem above_i (b : Int) (w : World) :
    Calls Try.prog 38 #[.int .i64 b] w fun e w' => e = .returned (.int .i64 (64 - (clampN b : Int))) ∧ w = w' := by
  have H := Lib.hid (show (clampN b : Int) = min (max b 0) 64 by unfold clampN; omega)
  generalize clampN b = k at *
  go_enter Try.func38, Try.ntmps38
  go_wp2
  all_goals
    go_ret
    exact ⟨ret_int (by have := H.out; omega), rfl⟩

theorem sign_i (n b : Int) (w : World) :
    Calls Try.prog 35 #[.int .u64 n, .int .i64 b] w fun e w' => e = .returned (.int .i64 (sgnI n b)) ∧ w = w' := by
  have hk := clampN_le b
  unfold sgnI lowI
  have HA := fun w => above_i b w
  generalize clampN b = k at *
  have HA2 := Lib.hid HA
  clear HA
  rw [← sign_int n k hk]
  go_enter Try.func35, Try.ntmps35
  go_wp2_with (go_at_call 38; refine (HA2.out _).mono ?_; rintro e w' ⟨rfl, rfl⟩)
  go_ret
  exact ⟨rfl, rfl⟩
end Go.Proofs.Ytoilbmhijjkkaab
