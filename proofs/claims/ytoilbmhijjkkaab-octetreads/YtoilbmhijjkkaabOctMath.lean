/- Plain numbers: what is put is got. Nothing of the program. -/
import Derived.Test.YtoilbmhijjkkaabOctRead
import Derived.Test.YtoilbmhijjkkaabFitIntMath
namespace Go.Proofs.Ytoilbmhijjkkaab
open Go.RowKit

theorem getB_foldl (xs : List Int) (a : Int) : xs.foldl (fun a x => a * 256 + x) a = a * pow256 xs.length + getB xs := by
  induction xs generalizing a with
  | nil => simp [getB, pow256]
  | cons x xs ih =>
    have e : getB (x :: xs) = (0 * 256 + x) * pow256 xs.length + getB xs := by
      show List.foldl (fun a x => a * 256 + x) 0 (x :: xs) = _
      rw [List.foldl_cons]
      exact ih _
    rw [List.foldl_cons, ih, e, List.length_cons, pow256_succ, Int.add_mul, Int.mul_assoc, Int.mul_comm 256, Int.zero_mul, Int.zero_add]
    omega
theorem getB_cons (x : Int) (xs : List Int) : getB (x :: xs) = x * pow256 xs.length + getB xs := by
  rw [getB, List.foldl_cons, getB_foldl, Int.zero_mul, Int.zero_add]
theorem pow256_two (k : Nat) : pow256 k = twoP (8 * k) := by
  unfold pow256 twoP
  rw [Nat.pow_mul]
theorem byte_step (n : Int) (k : Nat) : n % twoP (8 * (k + 1)) = n / ((2 ^ (k * 8) : Nat) : Int) % 256 * twoP (8 * k) + n % twoP (8 * k) := by
  have e0 : ((2 ^ (k * 8) : Nat) : Int) = twoP (8 * k) := by unfold twoP; rw [Nat.mul_comm]
  have e1 : twoP (8 * (k + 1)) = twoP (8 * k) * 256 := by
    unfold twoP
    rw [show 8 * (k + 1) = 8 * k + 8 from by omega, Nat.pow_add]
    omega
  rw [e0, e1]
  have h0 := twoP_pos (8 * k)
  generalize twoP (8 * k) = p at *
  have a1 := Int.mul_ediv_add_emod n p
  have a2 := Int.mul_ediv_add_emod (n / p) 256
  have b1 : 0 ≤ n % p := Int.emod_nonneg _ (by omega)
  have b2 : n % p < p := Int.emod_lt_of_pos _ h0
  have b3 : 0 ≤ n / p % 256 ∧ n / p % 256 < 256 := by omega
  have e3 : n = p * 256 * (n / p / 256) + (n / p % 256 * p + n % p) := by
    have : p * (n / p) = p * (256 * (n / p / 256) + n / p % 256) := by rw [a2]
    rw [Int.mul_add, ← Int.mul_assoc, Int.mul_comm p (n / p % 256)] at this
    omega
  have b4 : 0 ≤ n / p % 256 * p := Int.mul_nonneg b3.1 (by omega)
  have b5 : n / p % 256 * p ≤ 255 * p := Int.mul_le_mul_of_nonneg_right (by omega) (by omega)
  conv => lhs; rw [e3]
  rw [Int.add_comm, Int.add_mul_emod_self_left, Int.emod_eq_of_lt (by omega) (by omega)]
theorem get_put (n : Int) : ∀ k, getB (putB n k) = n % twoP (8 * k)
  | 0 => by rw [show twoP (8 * 0) = 1 from rfl]; simp [putB, getB]
  | k + 1 => by rw [putB, getB_cons, putB_length, get_put n k, pow256_two, byte_step]
theorem putB_byt (n : Int) : ∀ k, Byt (putB n k)
  | 0 => fun x h => by cases h
  | k + 1 => fun x h => by
    rcases List.mem_cons.1 h with rfl | h
    · omega
    · exact putB_byt n k x h
theorem byt_append {a b : List Int} (ha : Byt a) (hb : Byt b) : Byt (a ++ b) := fun x h => (List.mem_append.1 h).elim (ha x) (hb x)

theorem sgnI_low (n : Int) (k : Nat) (hk : k ≤ 64) : sgnI (n % twoP k) k = sgnI n k := by
  unfold sgnI
  rw [lowI_nat _ k hk, lowI_nat _ k hk, Int.emod_emod_of_dvd n (Int.dvd_refl _)]
theorem sgn_eq (n : Int) (k : Nat) (hk : k + 1 ≤ 64) : sgnI n ((k + 1 : Nat) : Int) = n ↔ -twoP k ≤ n ∧ n < twoP k := by
  constructor
  · intro h
    have := sgn_bd n k hk
    rw [h] at this
    exact this
  · rintro ⟨h1, h2⟩
    unfold sgnI
    rw [lowI_nat n (k + 1) hk, clampN_nat (k + 1) hk, Nat.add_sub_cancel]
    have hs := twoP_succ k
    rcases Int.lt_or_le n 0 with hn | hn
    · have e : n % twoP (k + 1) = n + twoP (k + 1) := by
        rw [← Int.add_emod_right, Int.emod_eq_of_lt (by omega) (by omega)]
      rw [e, if_neg (by omega)]; omega
    · have e : n % twoP (k + 1) = n := Int.emod_eq_of_lt hn (by omega)
      rw [e, if_pos h2]
theorem sgn_neg (n : Int) (k : Nat) (hk : k + 1 ≤ 64) : sgnI n ((k + 1 : Nat) : Int) < 0 ↔ twoP k ≤ n % twoP (k + 1) := by
  unfold sgnI
  rw [lowI_nat n (k + 1) hk, clampN_nat (k + 1) hk, Nat.add_sub_cancel]
  have h1 : 0 ≤ n % twoP (k + 1) := Int.emod_nonneg _ (by have := twoP_pos (k + 1); omega)
  have h2 : n % twoP (k + 1) < twoP (k + 1) := Int.emod_lt_of_pos _ (twoP_pos (k + 1))
  split <;> omega
theorem top_byte (n : Int) (k : Nat) : 128 ≤ n / ((2 ^ (k * 8) : Nat) : Int) % 256 ↔ twoP (8 * k + 7) ≤ n % twoP (8 * (k + 1)) := by
  rw [byte_step]
  have h0 := twoP_pos (8 * k)
  have e : twoP (8 * k + 7) = 128 * twoP (8 * k) := by
    unfold twoP
    rw [Nat.pow_add]
    omega
  have b1 : 0 ≤ n % twoP (8 * k) := Int.emod_nonneg _ (by omega)
  have b2 : n % twoP (8 * k) < twoP (8 * k) := Int.emod_lt_of_pos _ h0
  rw [e]
  generalize n / ((2 ^ (k * 8) : Nat) : Int) % 256 = t
  generalize twoP (8 * k) = p at *
  constructor
  · intro h
    have : 128 * p ≤ t * p := Int.mul_le_mul_of_nonneg_right h (by omega)
    omega
  · intro h
    apply Int.le_of_not_gt
    intro h'
    have : t * p ≤ 127 * p := Int.mul_le_mul_of_nonneg_right (by omega) (by omega)
    omega
end Go.Proofs.Ytoilbmhijjkkaab
