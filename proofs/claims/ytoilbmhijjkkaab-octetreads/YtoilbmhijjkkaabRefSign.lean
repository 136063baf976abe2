/- The document's own answers of layer 1, further: Sign. -/
import Derived.Test.YtoilbmhijjkkaabRefLow
namespace Go.Proofs.Ytoilbmhijjkkaab
open Go.RowKit

theorem sgn_low (n : Int) (k : Nat) (hk : k + 1 ≤ 64) (h : bitI n k = 0) : sgnI n ((k + 1 : Nat) : Int) = n % twoP k := by
  unfold sgnI
  rw [lowI_nat n (k + 1) hk, clampN_nat (k + 1) hk, mod_step, h, Nat.add_sub_cancel]
  have := mod_bd n k
  rw [if_pos (by omega)]; omega
theorem sgn_high (n : Int) (k : Nat) (hk : k + 1 ≤ 64) (h : bitI n k = 1) : sgnI n ((k + 1 : Nat) : Int) = n % twoP k - twoP k := by
  unfold sgnI
  rw [lowI_nat n (k + 1) hk, clampN_nat (k + 1) hk, mod_step, h, Nat.add_sub_cancel, twoP_succ]
  have := mod_bd n k
  rw [if_neg (by omega)]; omega
theorem sgnI_clamp (n b : Int) : sgnI n b = sgnI n ((clampN b : Nat) : Int) := by
  unfold sgnI lowI
  rw [clampN_nat _ (clampN_le b)]

set_option maxHeartbeats 1000000 in
theorem rsign_zero (n b : Int) (w : World) (hK : heldI b 0 64 = 0) :
    Calls Try.prog 34 #[.int .u64 n, .int .i64 b] w fun e w' => e = .returned (.int .i64 0) ∧ w = w' := by
  go_enter Try.func34, Try.ntmps34
  go_wp2_with (go_at_call 30; refine (held_any _ _ _ _).mono ?_; rintro e w' ⟨rfl, rfl⟩)
  go_ret
  exact ⟨rfl, rfl⟩

set_option maxHeartbeats 1000000 in
theorem rsign_low (n b : Int) (k : Nat) (w : World) (h0 : 0 ≤ n) (h1 : n < 18446744073709551616) (hk : k + 1 ≤ 64) (hK : heldI b 0 64 = (k : Int) + 1) (hb : bitI n k = 0) :
    Calls Try.prog 34 #[.int .u64 n, .int .i64 b] w fun e w' => e = .returned (.int .i64 (n % twoP k)) ∧ w = w' := by
  obtain ⟨m1, m2⟩ := mod_bd n k
  have p1 := twoP_le (show k ≤ 63 by omega)
  rw [show twoP 63 = 9223372036854775808 from rfl] at p1
  have hlow : lowI n (k : Int) = n % twoP k := lowI_nat n k (by omega)
  have hne : ((k : Int) + 1 == 0) = false := by rw [beq_eq_false_iff_ne]; omega
  generalize n % twoP k = r at *
  generalize twoP k = p at *
  go_enter Try.func34, Try.ntmps34
  go_wp2_with (first
    | (go_at_call 30; refine (held_any _ _ _ _).mono ?_; rintro e w' ⟨rfl, rfl⟩)
    | (go_at_call 29; refine (rlow_any _ _ _ h0 h1).mono ?_; rintro e w' ⟨rfl, rfl⟩)
    | (go_at_call 36; refine (bit_any _ k _ h0 h1 (by omega)).mono ?_; rintro e w' ⟨rfl, rfl⟩))
  go_ret
  exact ⟨rfl, rfl⟩

set_option maxHeartbeats 1000000 in
theorem rsign_high (n b : Int) (k : Nat) (w : World) (h0 : 0 ≤ n) (h1 : n < 18446744073709551616) (hk : k + 1 ≤ 64) (hK : heldI b 0 64 = (k : Int) + 1) (hb : bitI n k = 1) :
    Calls Try.prog 34 #[.int .u64 n, .int .i64 b] w fun e w' => e = .returned (.int .i64 (n % twoP k - twoP k)) ∧ w = w' := by
  obtain ⟨m1, m2⟩ := mod_bd n k
  have p1 := twoP_le (show k ≤ 63 by omega)
  rw [show twoP 63 = 9223372036854775808 from rfl] at p1
  have p0 := twoP_pos k
  have hlow : lowI n (k : Int) = n % twoP k := lowI_nat n k (by omega)
  have hne : ((k : Int) + 1 == 0) = false := by rw [beq_eq_false_iff_ne]; omega
  have hev : (k = 0 ∧ twoP k = 1) ∨ (k ≠ 0 ∧ twoP k = 2 * (twoP k / 2)) := by
    rcases k with _ | k
    · exact .inl ⟨rfl, rfl⟩
    · refine .inr ⟨by omega, ?_⟩
      have := twoP_succ k
      omega
  have HE := Lib.hid hev
  clear hev
  have HP := Lib.hid (fun w => power_any k w (by omega))
  generalize n % twoP k = r at *
  generalize twoP k = p at *
  go_enter Try.func34, Try.ntmps34
  go_wp2_with (first
    | (go_at_call 30; refine (held_any _ _ _ _).mono ?_; rintro e w' ⟨rfl, rfl⟩)
    | (go_at_call 29; refine (rlow_any _ _ _ h0 h1).mono ?_; rintro e w' ⟨rfl, rfl⟩)
    | (go_at_call 36; refine (bit_any _ k _ h0 h1 (by omega)).mono ?_; rintro e w' ⟨rfl, rfl⟩))
  go_loop [5, 6] (fun t i => ∃ j : Nat, j ≤ 2 ∧ i = .int .i64 j ∧ t = .int .i64 (r - j * (p / 2))) (fun _ i => 2 - (intOf i).toNat)
  case atStart => exact ⟨0, by omega, rfl, by simp⟩
  case round =>
    obtain ⟨j, hj, rfl, rfl⟩ := hrel
    by_cases hlt : j < 2
    · have hjq : 0 ≤ (j : Int) * (p / 2) ∧ (j : Int) * (p / 2) ≤ p / 2 := by
        have : j = 0 ∨ j = 1 := by omega
        rcases this with rfl | rfl <;> simp <;> omega
      have HS := Lib.hid (show r - ((j + 1 : Nat) : Int) * (p / 2) = r - (j : Int) * (p / 2) - p / 2 by
        rw [show (((j + 1 : Nat)) : Int) = (j : Int) + 1 from by omega, Int.add_mul]; omega)
      generalize (j : Int) * (p / 2) = jq at *
      go_wp2_with (go_at_call 37; refine (HP.out _).mono ?_; rintro e w' ⟨rfl, rfl⟩)
      go_round
      case rel => exact ⟨j + 1, by omega, by go_num, by rw [HS.out]⟩
      case measure => simp [intOf]; omega
    · obtain rfl : j = 2 := by omega
      rcases HE.out with ⟨hk0, hp⟩ | ⟨hk0, hp⟩
      · subst hk0
        have HQ := Lib.hid hp
        clear hp
        go_wp2
        go_ret
        exact ⟨ret_int (by have := HQ.out; omega), rfl⟩
      · have HQ := Lib.hid hp
        have hne1 : ((k : Int) + 1 == 1) = false := by rw [beq_eq_false_iff_ne]; omega
        clear hp
        go_wp2
        go_ret
        exact ⟨ret_int (by have := HQ.out; omega), rfl⟩

theorem rsign_any (n b : Int) (w : World) (h0 : 0 ≤ n) (h1 : n < 18446744073709551616) :
    Calls Try.prog 34 #[.int .u64 n, .int .i64 b] w fun e w' => e = .returned (.int .i64 (sgnI n b)) ∧ w = w' := by
  have hK := held_64 b
  have hk := clampN_le b
  rw [sgnI_clamp]
  rcases hc : clampN b with _ | k
  · rw [hc] at hK
    rw [show ((0 : Nat) : Int) = 0 from rfl, sgn_zero]
    exact rsign_zero n b w hK
  · rw [hc] at hK hk
    rcases bitI_01 n k with h | h
    · rw [sgn_low n k hk h]; exact rsign_low n b k w h0 h1 hk (by omega) h
    · rw [sgn_high n k hk h]; exact rsign_high n b k w h0 h1 hk (by omega) h

end Go.Proofs.Ytoilbmhijjkkaab
