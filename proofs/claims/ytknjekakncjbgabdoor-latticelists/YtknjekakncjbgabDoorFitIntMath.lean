/- Plain numbers: the lowest bits and signs at whatever numbers. Nothing of the program. -/
import Derived.Test.YtknjekakncjbgabDoorFitMath
import Derived.Lib.Hide
namespace Go.Proofs.YtknjekakncjbgabDoor
open Go.RowKit

def clampN (b : Int) : Nat := (min (max b 0) 64).toNat
theorem clampN_le (b : Int) : clampN b ≤ 64 := by unfold clampN; omega
theorem clampN_nat (k : Nat) (h : k ≤ 64) : clampN (k : Int) = k := by unfold clampN; omega
def twoP (k : Nat) : Int := ((2 ^ k : Nat) : Int)
theorem twoP_pos (k : Nat) : 0 < twoP k := by unfold twoP; have := Nat.two_pow_pos k; omega
theorem twoP_64 : twoP 64 = 18446744073709551616 := by decide
theorem twoP_succ (k : Nat) : twoP (k + 1) = 2 * twoP k := by unfold twoP; rw [Nat.pow_succ]; omega
theorem twoP_dvd {j k : Nat} (h : j ≤ k) : twoP j ∣ twoP k := by
  unfold twoP
  exact Int.natCast_dvd_natCast.2 (Nat.pow_dvd_pow 2 h)
theorem twoP_le {j k : Nat} (h : j ≤ k) : twoP j ≤ twoP k := by
  unfold twoP
  have := Nat.pow_le_pow_right (n := 2) (by decide) h
  omega
/-- The lowest bits. -/
def lowI (n b : Int) : Int := n % twoP (clampN b)
/-- What they are in two's complement. -/
def sgnI (n b : Int) : Int := if lowI n b < twoP (clampN b - 1) then lowI n b else lowI n b - twoP (clampN b)

theorem twoP_split (k : Nat) (hk : k ≤ 64) : twoP k * twoP (64 - k) = 18446744073709551616 := by
  have := pow_split k hk
  unfold twoP
  rw [← Int.natCast_mul, this]; rfl
theorem wrap_cut_int (n : Int) (k : Nat) (hk : k ≤ 64) : IntKind.u64.wrap (n * 2 ^ (64 - k)) = n % twoP k * twoP (64 - k) := by
  have e : ((2 : Int) ^ (64 - k)) = twoP (64 - k) := by simp [twoP]
  rw [IntKind.wrap_u64, e, ← twoP_split k hk, Int.mul_comm n, Int.mul_comm (twoP k), Int.mul_emod_mul_of_pos _ _ (twoP_pos _), Int.mul_comm]
theorem low_int (n : Int) (k : Nat) (hk : k ≤ 64) : IntKind.u64.wrap (n * 2 ^ (64 - k)) / 2 ^ (64 - k) = n % twoP k := by
  rw [wrap_cut_int n k hk, show ((2 : Int) ^ (64 - k)) = twoP (64 - k) from by simp [twoP], Int.mul_ediv_cancel _ (by have := twoP_pos (64 - k); omega)]
theorem sign_int (n : Int) (k : Nat) (hk : k ≤ 64) : wrap64 (IntKind.u64.wrap (n * 2 ^ (64 - k))) / 2 ^ (64 - k) = if n % twoP k < twoP (k - 1) then n % twoP k else n % twoP k - twoP k := by
  have h1 : 0 ≤ n % twoP k := Int.emod_nonneg _ (by have := twoP_pos k; omega)
  have h2 : n % twoP k < twoP k := Int.emod_lt_of_pos _ (twoP_pos k)
  obtain ⟨r, hr⟩ := Int.eq_ofNat_of_zero_le h1
  have key := sign_key r k hk
  have e1 : r % 2 ^ k = r := Nat.mod_eq_of_lt (by rw [hr] at h2; unfold twoP at h2; omega)
  have e2 : IntKind.u64.wrap (n * 2 ^ (64 - k)) = IntKind.u64.wrap ((r : Int) * 2 ^ (64 - k)) := by
    rw [wrap_cut_int n k hk, wrap_cut_int _ k hk, hr, Int.emod_eq_of_lt (by omega) (by rw [← hr]; exact h2)]
  rw [e2, key, hr]
  unfold sgn twoP
  rw [e1]
  by_cases h : r < 2 ^ (k - 1)
  · rw [if_pos h, if_pos (by omega)]
  · rw [if_neg h, if_neg (by omega)]

/-! The facts that the laws ask. -/
theorem lowI_nat (n : Int) (k : Nat) (hk : k ≤ 64) : lowI n k = n % twoP k := by unfold lowI; rw [clampN_nat k hk]
theorem wrap_low (x : Int) (k : Nat) (hk : k ≤ 64) : IntKind.u64.wrap x % twoP k = x % twoP k := by
  rw [IntKind.wrap_u64, ← twoP_64]
  exact Int.emod_emod_of_dvd x (twoP_dvd hk)
theorem low_add (a b : Int) (k : Nat) (hk : k ≤ 64) : lowI (IntKind.u64.wrap (a + b)) k = lowI (IntKind.u64.wrap (lowI a k + lowI b k)) k := by
  simp only [lowI_nat _ k hk, wrap_low _ k hk]
  rw [Int.add_emod]
theorem low_mul (a b : Int) (k : Nat) (hk : k ≤ 64) : lowI (IntKind.u64.wrap (a * b)) k = lowI (IntKind.u64.wrap (lowI a k * lowI b k)) k := by
  simp only [lowI_nat _ k hk, wrap_low _ k hk]
  rw [Int.mul_emod]
theorem low_low (a : Int) (j k : Nat) (hj : j ≤ 64) (hk : k ≤ 64) : lowI (lowI a j) k = lowI a ((min j k : Nat) : Int) := by
  rw [lowI_nat _ j hj, lowI_nat _ k hk, lowI_nat _ (min j k) (by omega)]
  rcases Nat.le_total k j with h | h
  · rw [Nat.min_eq_right h]; exact Int.emod_emod_of_dvd a (twoP_dvd h)
  · rw [Nat.min_eq_left h]
    have h1 : 0 ≤ a % twoP j := Int.emod_nonneg _ (by have := twoP_pos j; omega)
    have h2 : a % twoP j < twoP j := Int.emod_lt_of_pos _ (twoP_pos j)
    have h3 := twoP_le h
    exact Int.emod_eq_of_lt h1 (by omega)
theorem sgn_mod (a : Int) (k : Nat) (hk : k ≤ 64) : sgnI a k % twoP k = a % twoP k := by
  unfold sgnI
  rw [lowI_nat a k hk, clampN_nat k hk]
  split
  · exact Int.emod_emod_of_dvd a (Int.dvd_refl _)
  · rw [Int.sub_emod, Int.emod_self, Int.sub_zero, Int.emod_emod_of_dvd _ (Int.dvd_refl _)]; exact Int.emod_emod_of_dvd a (Int.dvd_refl _)
theorem low_sgn (a : Int) (k : Nat) (hk : k ≤ 64) : lowI (IntKind.u64.wrap (sgnI a k)) k = lowI a k := by
  rw [lowI_nat _ k hk, lowI_nat _ k hk, wrap_low _ k hk, sgn_mod a k hk]
theorem sgn_sgn (a : Int) (k : Nat) (hk : k ≤ 64) : sgnI (IntKind.u64.wrap (sgnI a k)) k = sgnI a k := by
  have h := low_sgn a k hk
  generalize hs : sgnI a k = s at h ⊢
  unfold sgnI
  rw [h, ← hs]
  rfl
theorem sgn_zero (a : Int) : sgnI a 0 = 0 := by
  unfold sgnI
  rw [show ((0 : Int)) = ((0 : Nat) : Int) from rfl, lowI_nat a 0 (by decide), clampN_nat 0 (by decide)]
  have : a % twoP 0 = 0 := by rw [show twoP 0 = 1 from rfl]; omega
  rw [this]; rfl
theorem sgn_bd (a : Int) (k : Nat) (hk : k + 1 ≤ 64) : -twoP k ≤ sgnI a ((k + 1 : Nat) : Int) ∧ sgnI a ((k + 1 : Nat) : Int) < twoP k := by
  unfold sgnI
  rw [lowI_nat a (k + 1) hk, clampN_nat (k + 1) hk, Nat.add_sub_cancel]
  have h1 : 0 ≤ a % twoP (k + 1) := Int.emod_nonneg _ (by have := twoP_pos (k + 1); omega)
  have h2 : a % twoP (k + 1) < twoP (k + 1) := Int.emod_lt_of_pos _ (twoP_pos (k + 1))
  rw [twoP_succ] at *
  have := twoP_pos k
  split <;> omega
end Go.Proofs.YtknjekakncjbgabDoor
