/- The document's own answers of layer 1, further: Sign, Rot. -/
import Derived.Test.YtoilbmhijjkkaaaDoorFitRef
namespace Go.Proofs.YtoilbmhijjkkaaaDoor
open Go.RowKit

theorem sgn_low (n : Int) (k : Nat) (hk : k + 1 ≤ 64) (h : bitI n k = 0) : sgnI n ((k + 1 : Nat) : Int) = n % twoP k := by
  unfold sgnI
  rw [lowI_nat n (k + 1) hk, clampN_nat (k + 1) hk, mod_step, h, Nat.add_sub_cancel]
  have := mod_bd n k
  rw [if_pos (by omega)]; omega
theorem sgn_high (n : Int) (k : Nat) (hk : k + 1 ≤ 64) (h : bitI n k = 1) : sgnI n ((k + 1 : Nat) : Int) = n % twoP k - twoP k := by
  unfold sgnI
  rw [lowI_nat n (k + 1) hk, clampN_nat (k + 1) hk, mod_step, h, Nat.add_sub_cancel, twoP_succ]
  have := mod_bd n k
  rw [if_neg (by omega)]; omega
theorem sgnI_clamp (n b : Int) : sgnI n b = sgnI n ((clampN b : Nat) : Int) := by
  unfold sgnI lowI
  rw [clampN_nat _ (clampN_le b)]

set_option maxHeartbeats 1000000 in
theorem rsign_zero (n b : Int) (w : World) (hK : heldI b 0 64 = 0) :
    Calls Tryd.prog 21 #[.int .u64 n, .int .i64 b] w fun e w' => e = .returned (.int .i64 0) ∧ w = w' := by
  go_enter Tryd.func21, Tryd.ntmps21
  go_wp2_with (go_at_call 33; refine (held_any _ _ _ _).mono ?_; rintro e w' ⟨rfl, rfl⟩)
  go_ret
  exact ⟨rfl, rfl⟩

set_option maxHeartbeats 1000000 in
theorem rsign_low (n b : Int) (k : Nat) (w : World) (h0 : 0 ≤ n) (h1 : n < 18446744073709551616) (hk : k + 1 ≤ 64) (hK : heldI b 0 64 = (k : Int) + 1) (hb : bitI n k = 0) :
    Calls Tryd.prog 21 #[.int .u64 n, .int .i64 b] w fun e w' => e = .returned (.int .i64 (n % twoP k)) ∧ w = w' := by
  obtain ⟨m1, m2⟩ := mod_bd n k
  have p1 := twoP_le (show k ≤ 63 by omega)
  rw [show twoP 63 = 9223372036854775808 from rfl] at p1
  have hlow : lowI n (k : Int) = n % twoP k := lowI_nat n k (by omega)
  have hne : ((k : Int) + 1 == 0) = false := by rw [beq_eq_false_iff_ne]; omega
  generalize n % twoP k = r at *
  generalize twoP k = p at *
  go_enter Tryd.func21, Tryd.ntmps21
  go_wp2_with (first
    | (go_at_call 33; refine (held_any _ _ _ _).mono ?_; rintro e w' ⟨rfl, rfl⟩)
    | (go_at_call 19; refine (rlow_any _ _ _ h0 h1).mono ?_; rintro e w' ⟨rfl, rfl⟩)
    | (go_at_call 31; refine (bit_any _ k _ h0 h1 (by omega)).mono ?_; rintro e w' ⟨rfl, rfl⟩))
  go_ret
  exact ⟨rfl, rfl⟩

set_option maxHeartbeats 1000000 in
theorem rsign_high (n b : Int) (k : Nat) (w : World) (h0 : 0 ≤ n) (h1 : n < 18446744073709551616) (hk : k + 1 ≤ 64) (hK : heldI b 0 64 = (k : Int) + 1) (hb : bitI n k = 1) :
    Calls Tryd.prog 21 #[.int .u64 n, .int .i64 b] w fun e w' => e = .returned (.int .i64 (n % twoP k - twoP k)) ∧ w = w' := by
  obtain ⟨m1, m2⟩ := mod_bd n k
  have p1 := twoP_le (show k ≤ 63 by omega)
  rw [show twoP 63 = 9223372036854775808 from rfl] at p1
  have p0 := twoP_pos k
  have hlow : lowI n (k : Int) = n % twoP k := lowI_nat n k (by omega)
  have hne : ((k : Int) + 1 == 0) = false := by rw [beq_eq_false_iff_ne]; omega
  have hev : (k = 0 ∧ twoP k = 1) ∨ (k ≠ 0 ∧ twoP k = 2 * (twoP k / 2)) := by
    rcases k with _ | k
    · exact .inl ⟨rfl, rfl⟩
    · refine .inr ⟨by omega, ?_⟩
      have := twoP_succ k
      omega
  have HE := Lib.hid hev
  clear hev
  have HP := Lib.hid (fun w => power_any k w (by omega))
  generalize n % twoP k = r at *
  generalize twoP k = p at *
  go_enter Tryd.func21, Tryd.ntmps21
  go_wp2_with (first
    | (go_at_call 33; refine (held_any _ _ _ _).mono ?_; rintro e w' ⟨rfl, rfl⟩)
    | (go_at_call 19; refine (rlow_any _ _ _ h0 h1).mono ?_; rintro e w' ⟨rfl, rfl⟩)
    | (go_at_call 31; refine (bit_any _ k _ h0 h1 (by omega)).mono ?_; rintro e w' ⟨rfl, rfl⟩))
  go_loop [5, 6] (fun t i => ∃ j : Nat, j ≤ 2 ∧ i = .int .i64 j ∧ t = .int .i64 (r - j * (p / 2))) (fun _ i => 2 - (intOf i).toNat)
  case atStart => exact ⟨0, by omega, rfl, by simp⟩
  case round =>
    obtain ⟨j, hj, rfl, rfl⟩ := hrel
    by_cases hlt : j < 2
    · have hjq : 0 ≤ (j : Int) * (p / 2) ∧ (j : Int) * (p / 2) ≤ p / 2 := by
        have : j = 0 ∨ j = 1 := by omega
        rcases this with rfl | rfl <;> simp <;> omega
      have HS := Lib.hid (show r - ((j + 1 : Nat) : Int) * (p / 2) = r - (j : Int) * (p / 2) - p / 2 by
        rw [show (((j + 1 : Nat)) : Int) = (j : Int) + 1 from by omega, Int.add_mul]; omega)
      generalize (j : Int) * (p / 2) = jq at *
      go_wp2_with (go_at_call 34; refine (HP.out _).mono ?_; rintro e w' ⟨rfl, rfl⟩)
      go_round
      case rel => exact ⟨j + 1, by omega, by go_num, by rw [HS.out]⟩
      case measure => simp [intOf]; omega
    · obtain rfl : j = 2 := by omega
      rcases HE.out with ⟨hk0, hp⟩ | ⟨hk0, hp⟩
      · subst hk0
        have HQ := Lib.hid hp
        clear hp
        go_wp2
        go_ret
        exact ⟨ret_int (by have := HQ.out; omega), rfl⟩
      · have HQ := Lib.hid hp
        have hne1 : ((k : Int) + 1 == 1) = false := by rw [beq_eq_false_iff_ne]; omega
        clear hp
        go_wp2
        go_ret
        exact ⟨ret_int (by have := HQ.out; omega), rfl⟩

theorem rsign_any (n b : Int) (w : World) (h0 : 0 ≤ n) (h1 : n < 18446744073709551616) :
    Calls Tryd.prog 21 #[.int .u64 n, .int .i64 b] w fun e w' => e = .returned (.int .i64 (sgnI n b)) ∧ w = w' := by
  have hK := held_64 b
  have hk := clampN_le b
  rw [sgnI_clamp]
  rcases hc : clampN b with _ | k
  · rw [hc] at hK
    rw [show ((0 : Nat) : Int) = 0 from rfl, sgn_zero]
    exact rsign_zero n b w hK
  · rw [hc] at hK hk
    rcases bitI_01 n k with h | h
    · rw [sgn_low n k hk h]; exact rsign_low n b k w h0 h1 hk (by omega) h
    · rw [sgn_high n k hk h]; exact rsign_high n b k w h0 h1 hk (by omega) h

/-! Rot. -/
theorem or_pow_add (x i : Nat) (h : x.testBit i = false) : x ||| 2 ^ i = x + 2 ^ i := by
  have hp : 0 < 2 ^ i := Nat.two_pow_pos i
  have h2 : 2 ^ (i + 1) = 2 * 2 ^ i := by rw [Nat.pow_succ, Nat.mul_comm]
  have hx := Nat.div_add_mod x (2 ^ (i + 1))
  have hb : x / 2 ^ i % 2 = 0 := by
    rw [Nat.testBit_eq_decide_div_mod_eq] at h
    have := of_decide_eq_false h
    omega
  have hc : x % 2 ^ (i + 1) = x % 2 ^ i := by
    rw [Nat.pow_succ, Nat.mod_mul, hb]; omega
  have hlt : x % 2 ^ i < 2 ^ i := Nat.mod_lt _ hp
  generalize hq : x / 2 ^ (i + 1) = q at hx
  generalize hr : x % 2 ^ i = r at hc hlt
  rw [hc] at hx
  have e : x + 2 ^ i = 2 ^ (i + 1) * q + (r + 2 ^ i) := by omega
  apply Nat.eq_of_testBit_eq
  intro j
  rw [e, Nat.testBit_or, Nat.testBit_two_pow, Nat.testBit_two_pow_mul_add _ (by omega), ← hx, Nat.testBit_two_pow_mul_add _ (by omega)]
  by_cases hj : j < i + 1
  · rw [if_pos hj, if_pos hj]
    by_cases hji : j = i
    · subst hji
      have e1 : (r + 2 ^ j).testBit j = true := by
        rw [Nat.add_comm]
        have := Nat.testBit_two_pow_add_eq r j
        rw [this, Nat.testBit_lt_two_pow hlt]; rfl
      rw [e1]; simp
    · have hji' : j < i := by omega
      have e1 : (r + 2 ^ i).testBit j = r.testBit j := by
        rw [Nat.add_comm]
        exact Nat.testBit_two_pow_add_gt hji' r
      rw [e1]
      have : ¬ i = j := by omega
      simp [this]
  · rw [if_neg hj, if_neg hj]
    have : ¬ i = j := by omega
    simp [this]

theorem mod_bit (n j i : Nat) : (n % 2 ^ j).testBit i = (decide (i < j) && n.testBit i) := Nat.testBit_mod_two_pow n j i
theorem rot_step_yes (n s j : Nat) (hn : n < 18446744073709551616) (hs : s < 64) (hj : j < 64) (h : n.testBit j = true) : rotN (n % 2 ^ (j + 1)) s = rotN (n % 2 ^ j) s + 2 ^ ((j + s) % 64) := by
  have b1 : n % 2 ^ (j + 1) < 18446744073709551616 := Nat.lt_of_le_of_lt (Nat.mod_le _ _) hn
  have b2 : n % 2 ^ j < 18446744073709551616 := Nat.lt_of_le_of_lt (Nat.mod_le _ _) hn
  rw [← or_pow_add]
  · apply Nat.eq_of_testBit_eq
    intro i
    rw [Nat.testBit_or, rot_bit _ s i b1 hs, rot_bit _ s i b2 hs, Nat.testBit_two_pow, mod_bit, mod_bit]
    by_cases hi : i < 64
    · by_cases he : (j + s) % 64 = i
      · have e : (i + 64 - s) % 64 = j := by omega
        rw [e]
        simp [hi, he, h]
      · have e : (i + 64 - s) % 64 ≠ j := by omega
        have e2 : decide ((i + 64 - s) % 64 < j + 1) = decide ((i + 64 - s) % 64 < j) := by
          rw [decide_eq_decide]; omega
        rw [e2]
        simp [he]
    · have he : ¬ (j + s) % 64 = i := by omega
      simp [hi, he]
  · rw [rot_bit _ s _ b2 hs, mod_bit]
    have e : ((j + s) % 64 + 64 - s) % 64 = j := by omega
    rw [e]
    simp
theorem rot_step_no (n s j : Nat) (hn : n < 18446744073709551616) (hs : s < 64) (h : n.testBit j = false) : rotN (n % 2 ^ (j + 1)) s = rotN (n % 2 ^ j) s := by
  have b1 : n % 2 ^ (j + 1) < 18446744073709551616 := Nat.lt_of_le_of_lt (Nat.mod_le _ _) hn
  have b2 : n % 2 ^ j < 18446744073709551616 := Nat.lt_of_le_of_lt (Nat.mod_le _ _) hn
  apply Nat.eq_of_testBit_eq
  intro i
  rw [rot_bit _ s i b1 hs, rot_bit _ s i b2 hs, mod_bit, mod_bit]
  by_cases he : (i + 64 - s) % 64 = j
  · rw [he, h]; simp
  · have e2 : decide ((i + 64 - s) % 64 < j + 1) = decide ((i + 64 - s) % 64 < j) := by
      rw [decide_eq_decide]; omega
    rw [e2]
theorem bitI_bit (n : Int) (j : Nat) (h0 : 0 ≤ n) : bitI n j = if n.toNat.testBit j then 1 else 0 := by
  obtain ⟨m, rfl⟩ := Int.eq_ofNat_of_zero_le h0
  unfold bitI twoP
  rw [Int.toNat_natCast, Nat.testBit_eq_decide_div_mod_eq, ← Int.natCast_ediv]
  by_cases h : m / 2 ^ j % 2 = 1
  · simp only [h, decide_true, if_true]; omega
  · simp only [h, decide_false, Bool.false_eq_true, if_false]; omega
/-- What has been added up behind j rounds. -/
def rotTo (n : Int) (s j : Nat) : Int := ((rotN (n.toNat % 2 ^ j) s : Nat) : Int)
theorem rotTo_zero (n : Int) (s : Nat) : rotTo n s 0 = 0 := by
  unfold rotTo
  rw [Nat.pow_zero, Nat.mod_one]
  simp [rotN]
theorem rotTo_all (n : Int) (s : Nat) (h1 : n < 18446744073709551616) : rotTo n s 64 = ((rotN n.toNat s : Nat) : Int) := by
  unfold rotTo
  rw [Nat.mod_eq_of_lt (show n.toNat < 2 ^ 64 by omega)]
theorem rotTo_step (n : Int) (s j : Nat) (h0 : 0 ≤ n) (h1 : n < 18446744073709551616) (hs : s < 64) (hj : j < 64) :
    IntKind.u64.wrap (rotTo n s j + IntKind.u64.wrap (bitI n j * twoP ((j + s) % 64))) = rotTo n s (j + 1) := by
  have b1 : n.toNat % 2 ^ (j + 1) < 18446744073709551616 := Nat.lt_of_le_of_lt (Nat.mod_le _ _) (by omega)
  have hl := rot_lt _ s b1 hs
  have b2 : n.toNat % 2 ^ j < 18446744073709551616 := Nat.lt_of_le_of_lt (Nat.mod_le _ _) (by omega)
  have hl2 := rot_lt _ s b2 hs
  rw [bitI_bit n j h0]
  unfold rotTo twoP
  by_cases h : n.toNat.testBit j = true
  · rw [if_pos h]
    have e := rot_step_yes n.toNat s j (by omega) hs hj h
    rw [e] at hl ⊢
    rw [IntKind.wrap_u64, IntKind.wrap_u64]
    omega
  · rw [if_neg h]
    have e := rot_step_no n.toNat s j (by omega) hs (by simpa using h)
    rw [e] at hl ⊢
    rw [IntKind.wrap_u64, IntKind.wrap_u64]
    omega
end Go.Proofs.YtoilbmhijjkkaaaDoor
