/- The document's own answers of layer 1: what each of its functions says. -/
import Derived.Test.YtoilbmhijjkkaabProg
import Derived.Test.YtoilbmhijjkkaabMem
import Derived.Test.YtoilbmhijjkkaabFitIntMath
namespace Go.Proofs.Ytoilbmhijjkkaab
open Go.RowKit

def heldI (n lo hi : Int) : Int := max (min n hi) lo
theorem held_any (n lo hi : Int) (w : World) :
    Calls Try.prog 30 #[.int .i64 n, .int .i64 lo, .int .i64 hi] w fun e w' => e = .returned (.int .i64 (heldI n lo hi)) ∧ w = w' := by
  unfold heldI
  go_enter Try.func30, Try.ntmps30
  go_wp2
  all_goals
    go_ret
    exact ⟨ret_int (by omega), rfl⟩

def bitI (n : Int) (i : Nat) : Int := n / twoP i % 2
theorem twoP_div (n : Int) (k : Nat) : n / twoP k / 2 = n / twoP (k + 1) := by
  rw [twoP_succ, Int.mul_comm, ← Int.ediv_ediv_of_nonneg (by have := twoP_pos k; omega)]
theorem bit_any (n : Int) (i : Nat) (w : World) (h0 : 0 ≤ n) (h1 : n < 18446744073709551616) (hi : i ≤ 64) :
    Calls Try.prog 36 #[.int .u64 n, .int .i64 i] w fun e w' => e = .returned (.int .u64 (bitI n i)) ∧ w = w' := by
  go_enter Try.func36, Try.ntmps36
  go_wp2
  go_loop [0, 5] (fun t k => ∃ j : Nat, j ≤ i ∧ k = .int .i64 j ∧ t = .int .u64 (n / twoP j)) (fun _ k => i - (intOf k).toNat)
  case atStart => exact ⟨0, by omega, rfl, by rw [show twoP 0 = 1 from rfl]; simp⟩
  case round =>
    obtain ⟨j, hj, rfl, rfl⟩ := hrel
    have d0 : 0 ≤ n / twoP j := Int.ediv_nonneg h0 (by have := twoP_pos j; omega)
    have d1 : n / twoP j ≤ n := Int.ediv_le_self _ h0
    have HD := Lib.hid (twoP_div n j)
    by_cases hlt : j < i
    · generalize n / twoP j = d at *
      go_wp2
      go_round
      case rel => exact ⟨j + 1, by omega, by go_num, by rw [← HD.out]⟩
      case measure => simp [intOf]; omega
    · obtain rfl : j = i := by omega
      have HB := Lib.hid (show bitI n j = n / twoP j % 2 from rfl)
      generalize n / twoP j = d at *
      go_wp2
      go_ret
      exact ⟨ret_int HB.out.symm, rfl⟩

theorem power_any (i : Nat) (w : World) (hi : i ≤ 63) :
    Calls Try.prog 37 #[.int .i64 i] w fun e w' => e = .returned (.int .u64 (twoP i)) ∧ w = w' := by
  go_enter Try.func37, Try.ntmps37
  go_wp2
  go_loop [3, 4] (fun t k => ∃ j : Nat, j ≤ i ∧ k = .int .i64 j ∧ t = .int .u64 (twoP j)) (fun _ k => i - (intOf k).toNat)
  case atStart => exact ⟨0, by omega, rfl, rfl⟩
  case round =>
    obtain ⟨j, hj, rfl, rfl⟩ := hrel
    by_cases hlt : j < i
    · have h0 := twoP_pos j
      have h1 := twoP_le (show j ≤ 62 by omega)
      rw [show twoP 62 = 4611686018427387904 from rfl] at h1
      have HD := Lib.hid (twoP_succ j)
      generalize twoP j = d at *
      go_wp2
      go_round
      case rel => exact ⟨j + 1, by omega, by go_num, by rw [HD.out]⟩
      case measure => simp [intOf]; omega
    · obtain rfl : j = i := by omega
      go_wp2
      go_ret
      exact ⟨rfl, rfl⟩

theorem held_64 (b : Int) : heldI b 0 64 = (clampN b : Int) := by unfold heldI clampN; omega

theorem bitI_01 (n : Int) (i : Nat) : bitI n i = 0 ∨ bitI n i = 1 := by unfold bitI; omega
theorem mod_step (n : Int) (j : Nat) : n % twoP (j + 1) = n % twoP j + bitI n j * twoP j := by
  unfold bitI
  have h0 := twoP_pos j
  have e1 := Int.mul_ediv_add_emod n (twoP j)
  have e2 := Int.mul_ediv_add_emod (n / twoP j) 2
  have e3 : n = twoP (j + 1) * (n / twoP j / 2) + (n % twoP j + n / twoP j % 2 * twoP j) := by
    rw [twoP_succ]
    have : twoP j * (n / twoP j) = twoP j * (2 * (n / twoP j / 2) + n / twoP j % 2) := by rw [e2]
    rw [Int.mul_add, ← Int.mul_assoc, Int.mul_comm (twoP j) 2, Int.mul_comm (twoP j) (n / twoP j % 2)] at this
    omega
  have h1 : 0 ≤ n % twoP j := Int.emod_nonneg _ (by omega)
  have h2 : n % twoP j < twoP j := Int.emod_lt_of_pos _ h0
  have h3 : n / twoP j % 2 = 0 ∨ n / twoP j % 2 = 1 := by omega
  have h4 : 0 ≤ n % twoP j + n / twoP j % 2 * twoP j ∧ n % twoP j + n / twoP j % 2 * twoP j < twoP (j + 1) := by
    rw [twoP_succ]
    rcases h3 with h | h <;> rw [h] <;> omega
  conv => lhs; rw [e3]
  rw [Int.add_comm, Int.add_mul_emod_self_left, Int.emod_eq_of_lt h4.1 h4.2]
theorem mod_bd (n : Int) (j : Nat) : 0 ≤ n % twoP j ∧ n % twoP j < twoP j :=
  ⟨Int.emod_nonneg _ (by have := twoP_pos j; omega), Int.emod_lt_of_pos _ (twoP_pos j)⟩

set_option maxHeartbeats 400000 in
theorem rlow_any (n b : Int) (w : World) (h0 : 0 ≤ n) (h1 : n < 18446744073709551616) :
    Calls Try.prog 29 #[.int .u64 n, .int .i64 b] w fun e w' => e = .returned (.int .u64 (lowI n b)) ∧ w = w' := by
  have hK := held_64 b
  have hk := clampN_le b
  unfold lowI
  generalize clampN b = K at *
  go_enter Try.func29, Try.ntmps29
  go_wp2
  go_loop [5, 6] (fun t k => ∃ j : Nat, j ≤ K ∧ k = .int .i64 j ∧ t = .int .u64 (n % twoP j)) (fun _ k => K - (intOf k).toNat)
  case atStart => exact ⟨0, by omega, rfl, by rw [show twoP 0 = 1 from rfl]; simp⟩
  case round =>
    obtain ⟨j, hj, rfl, rfl⟩ := hrel
    by_cases hlt : j < K
    · have m1 := mod_bd n j
      have m2 := mod_bd n (j + 1)
      have p1 := twoP_le (show j + 1 ≤ 64 by omega)
      rw [twoP_64] at p1
      have p0 := twoP_pos j
      have HD := Lib.hid (mod_step n j)
      have hb := bitI_01 n j
      have key : IntKind.u64.wrap (n % twoP j + IntKind.u64.wrap (bitI n j * twoP j)) = n % twoP (j + 1) := by
        rw [mod_step n j, IntKind.wrap_u64, IntKind.wrap_u64]
        have := mod_step n j
        rcases hb with h | h <;> rw [h] at this ⊢ <;> omega
      clear hb m1 m2 p1 p0
      go_wp2_with (first
        | (go_at_call 30; refine (held_any _ _ _ _).mono ?_; rintro e w' ⟨rfl, rfl⟩)
        | (go_at_call 36; refine (bit_any _ _ _ h0 h1 (by omega)).mono ?_; rintro e w' ⟨rfl, rfl⟩)
        | (go_at_call 37; refine (power_any _ _ (by omega)).mono ?_; rintro e w' ⟨rfl, rfl⟩))
      go_round
      case rel => exact ⟨j + 1, by omega, by go_num, rfl⟩
      case measure => simp [intOf]; omega
    · obtain rfl : j = K := by omega
      go_wp2_with (go_at_call 30; refine (held_any _ _ _ _).mono ?_; rintro e w' ⟨rfl, rfl⟩)
      go_ret
      exact ⟨rfl, rfl⟩
end Go.Proofs.Ytoilbmhijjkkaab
