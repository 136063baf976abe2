/- Plain numbers: the lowest bits, signs, turning round, the places of bits. Nothing of the program. -/
import Derived.WalkKit
import Derived.Laws.Bits64b
import Derived.Laws.BitsAllLaws
import Derived.Lib.TrailingZeros
namespace Go.Proofs.YtmdhbbibghpijaaDoor
open Go.RowKit

theorem pow_split (k : Nat) (hk : k ≤ 64) : 2 ^ k * 2 ^ (64 - k) = 18446744073709551616 := by
  rw [← Nat.pow_add, show k + (64 - k) = 64 from by omega]

theorem cut_nat (n k : Nat) (hk : k ≤ 64) : n * 2 ^ (64 - k) % 18446744073709551616 = n % 2 ^ k * 2 ^ (64 - k) := by
  rw [← pow_split k hk, Nat.mul_mod_mul_right]

theorem wrap_cut (n k : Nat) (hk : k ≤ 64) : IntKind.u64.wrap ((n : Int) * 2 ^ (64 - k)) = ((n % 2 ^ k * 2 ^ (64 - k) : Nat) : Int) := by
  rw [IntKind.wrap_u64, ← cut_nat n k hk]
  simp

theorem low_key (n k : Nat) (hk : k ≤ 64) : IntKind.u64.wrap ((n : Int) * 2 ^ (64 - k)) / 2 ^ (64 - k) = ((n % 2 ^ k : Nat) : Int) := by
  rw [wrap_cut n k hk]
  have e : ((2 : Int) ^ (64 - k)) = ((2 ^ (64 - k) : Nat) : Int) := by simp
  rw [e, ← Int.natCast_ediv, Nat.mul_div_cancel _ (Nat.two_pow_pos _)]

/-- The number that the lowest k bits are in two's complement. -/
def sgn (n k : Nat) : Int := if n % 2 ^ k < 2 ^ (k - 1) then ((n % 2 ^ k : Nat) : Int) else ((n % 2 ^ k : Nat) : Int) - ((2 ^ k : Nat) : Int)

theorem sign_key (n k : Nat) (hk : k ≤ 64) : wrap64 (IntKind.u64.wrap ((n : Int) * 2 ^ (64 - k))) / 2 ^ (64 - k) = sgn n k := by
  rw [wrap_cut n k hk]
  have e : ((2 : Int) ^ (64 - k)) = ((2 ^ (64 - k) : Nat) : Int) := by simp
  rw [e]
  have hp := pow_split k hk
  have hr : n % 2 ^ k < 2 ^ k := Nat.mod_lt _ (Nat.two_pow_pos _)
  unfold sgn
  generalize n % 2 ^ k = r at hr ⊢
  have hj : 0 < 2 ^ (64 - k) := Nat.two_pow_pos _
  unfold wrap64
  by_cases h0 : k = 0
  · subst h0
    obtain rfl : r = 0 := by omega
    simp
  · have h2 : 2 ^ k = 2 * 2 ^ (k - 1) := by
      rw [show k = (k - 1) + 1 from by omega, Nat.pow_succ, Nat.mul_comm]; simp
    generalize hJ : 2 ^ (64 - k) = J at hp hj ⊢
    generalize 2 ^ (k - 1) = m at h2 ⊢
    rw [h2] at hp hr ⊢
    have hm : m * J = 9223372036854775808 := by
      have : 2 * m * J = 2 * (m * J) := Nat.mul_assoc _ _ _
      omega
    split
    · rename_i hlt
      have h3 : r * J < m * J := Nat.mul_lt_mul_of_pos_right hlt hj
      have h4 : (((r * J : Nat) : Int) + 9223372036854775808) % 18446744073709551616 - 9223372036854775808 = ((r * J : Nat) : Int) := by omega
      rw [h4, ← Int.natCast_ediv, Nat.mul_div_cancel _ hj]
    · rename_i hge
      have h3 : m * J ≤ r * J := Nat.mul_le_mul_right _ (by omega)
      have h5 : r * J < 2 * m * J := Nat.mul_lt_mul_of_pos_right hr hj
      have h4 : (((r * J : Nat) : Int) + 9223372036854775808) % 18446744073709551616 - 9223372036854775808 = (((r : Int) - ((2 * m : Nat) : Int)) * (J : Int)) := by
        have : (((r : Int) - ((2 * m : Nat) : Int)) * (J : Int)) = ((r * J : Nat) : Int) - ((2 * m * J : Nat) : Int) := by
          rw [Int.sub_mul]; simp
        rw [this]; omega
      rw [h4, Int.mul_ediv_cancel _ (by omega)]

/-- The places of the bits that are 1. -/
def places (n : Nat) : List Nat := (List.range 64).filter n.testBit

theorem places_length (n : Nat) : (places n).length ≤ 64 := by
  have := List.length_filter_le n.testBit (List.range 64)
  simpa [places] using this

theorem places_lt (n k : Nat) (h : k ∈ places n) : k < 64 := by
  have := (List.mem_filter.1 h).1
  simpa using this

theorem places_zero : places 0 = [] := by
  simp [places]

theorem filter_first (p q : Nat → Bool) (k : Nat) (hk : p k = true) (hl : ∀ i, i < k → p i = false) (hq : ∀ i, q i = (p i && decide (i ≠ k))) :
    ∀ n, k < n → (List.range n).filter p = k :: (List.range n).filter q
  | 0, h => by omega
  | n + 1, h => by
    rw [List.range_succ, List.filter_append, List.filter_append]
    by_cases e : k = n
    · subst e
      have h1 : (List.range k).filter p = [] := by
        rw [List.filter_eq_nil_iff]
        intro a ha
        have := hl a (by simpa using ha)
        simp [this]
      have h2 : (List.range k).filter q = [] := by
        rw [List.filter_eq_nil_iff]
        intro a ha
        have := hl a (by simpa using ha)
        simp [hq, this]
      simp [h1, h2, hk, hq]
    · rw [filter_first p q k hk hl hq n (by omega)]
      have hn : q n = p n := by
        have : n ≠ k := fun x => e x.symm
        simp [hq, this]
      simp [List.filter_cons, hn]

/-- The lowest bit goes. -/
theorem low_bit (x : Nat) (h0 : x ≠ 0) (h : x < 18446744073709551616) :
    x.testBit (Lib.ctz 64 x) = true ∧ (∀ i, i < Lib.ctz 64 x → x.testBit i = false) ∧ (∀ i, (x &&& (x - 1)).testBit i = (x.testBit i && decide (i ≠ Lib.ctz 64 x))) ∧ Lib.ctz 64 x < 64 ∧ x &&& (x - 1) < x := by
  obtain ⟨m, hm, hk⟩ := Lib.ctzFrom_spec 64 x (by omega) h
  have e : Lib.ctz 64 x = Lib.ctzFrom 64 x := by simp [Lib.ctz, h0]
  rw [e]
  generalize Lib.ctzFrom 64 x = k at hm hk
  subst hm
  have hp : 0 < 2 ^ k := Nat.two_pow_pos k
  have e1 : 2 ^ k * (2 * m + 1) - 1 = 2 ^ k * (2 * m) + (2 ^ k - 1) := by
    rw [Nat.mul_add]; omega
  have t1 : ∀ i, (2 ^ k * (2 * m + 1)).testBit i = (decide (k ≤ i) && (2 * m + 1).testBit (i - k)) := by
    intro i
    rw [Nat.mul_comm, Nat.testBit_mul_two_pow]
  have t2 : ∀ i, (2 ^ k * (2 * m) + (2 ^ k - 1)).testBit i = if i < k then true else (2 * m).testBit (i - k) := by
    intro i
    rw [Nat.testBit_two_pow_mul_add _ (by omega)]
    split
    · rename_i hi
      simp [Nat.testBit_two_pow_sub_one, hi]
    · rfl
  have hand : ∀ i, (2 ^ k * (2 * m + 1) &&& (2 ^ k * (2 * m + 1) - 1)).testBit i = ((2 ^ k * (2 * m + 1)).testBit i && decide (i ≠ k)) := by
    intro i
    rw [Nat.testBit_and, e1, t2, t1]
    by_cases hi : i < k
    · have : ¬ k ≤ i := by omega
      simp [this]
    · by_cases hik : i = k
      · subst hik
        simp
      · obtain ⟨j, rfl⟩ : ∃ j, i = k + (j + 1) := ⟨i - k - 1, by omega⟩
        have e3 : k + (j + 1) - k = j + 1 := by omega
        have a1 : (2 * m + 1) / 2 = m := by omega
        have a2 : (2 * m) / 2 = m := by omega
        simp [e3, Nat.testBit_succ, a1, a2]
        exact fun x => Or.inr x
  refine ⟨?_, ?_, hand, hk, ?_⟩
  · rw [t1]; simp
  · intro i hi
    rw [t1]
    have : ¬ k ≤ i := by omega
    simp [this]
  · have h1 := Nat.and_le_right (n := 2 ^ k * (2 * m + 1)) (m := 2 ^ k * (2 * m + 1) - 1)
    omega

theorem places_cons (x : Nat) (h0 : x ≠ 0) (h : x < 18446744073709551616) : places x = Lib.ctz 64 x :: places (x &&& (x - 1)) := by
  obtain ⟨a, b, c, d, _⟩ := low_bit x h0 h
  exact filter_first _ _ _ a b c 64 d
end Go.Proofs.YtmdhbbibghpijaaDoor
