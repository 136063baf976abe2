/- Plain numbers: bytes stand in the order of the numbers. Nothing of the program. -/
import Derived.Test.YtoilbmhijjkkaabOctMath
import Derived.Lib.Bytes
namespace Go.Proofs.Ytoilbmhijjkkaab
open Go.RowKit

theorem byte_lt {A B : Int} (a0 : 0 ≤ A) (a1 : A < 256) (b0 : 0 ≤ B) (b1 : B < 256) : (UInt8.ofNat A.toNat < UInt8.ofNat B.toNat) ↔ A < B := by
  rw [UInt8.lt_iff_toNat_lt, UInt8.toNat_ofNat', UInt8.toNat_ofNat']
  omega
theorem byte_eq {A B : Int} (a0 : 0 ≤ A) (a1 : A < 256) (b0 : 0 ≤ B) (b1 : B < 256) : (UInt8.ofNat A.toNat = UInt8.ofNat B.toNat) ↔ A = B := by
  rw [← UInt8.toNat_inj, UInt8.toNat_ofNat', UInt8.toNat_ofNat']
  omega
theorem lex_lt {A B p r s : Int} (hr0 : 0 ≤ r) (hr : r < p) (hs0 : 0 ≤ s) (hs : s < p) : A * p + r < B * p + s ↔ A < B ∨ (A = B ∧ r < s) := by
  rcases Int.lt_trichotomy A B with h | h | h
  · have : (A + 1) * p ≤ B * p := Int.mul_le_mul_of_nonneg_right (by omega) (by omega)
    rw [Int.add_mul] at this
    constructor
    · intro _; exact .inl h
    · intro _; omega
  · subst h
    constructor
    · intro h; exact .inr ⟨rfl, by omega⟩
    · intro h; omega
  · have : (B + 1) * p ≤ A * p := Int.mul_le_mul_of_nonneg_right (by omega) (by omega)
    rw [Int.add_mul] at this
    constructor <;> intro h' <;> omega
theorem less_put (a b : Int) : ∀ k, Op.bytesLess (Lib.bytesOf (putB a k)) (Lib.bytesOf (putB b k)) = decide (a % twoP (8 * k) < b % twoP (8 * k))
  | 0 => by
    rw [show twoP (8 * 0) = 1 from rfl]
    simp [putB, Lib.bytesOf, Op.bytesLess]
  | k + 1 => by
    have ih := less_put a b k
    have hp := twoP_pos (8 * k)
    have r0 : 0 ≤ a % twoP (8 * k) := Int.emod_nonneg _ (by omega)
    have r1 : a % twoP (8 * k) < twoP (8 * k) := Int.emod_lt_of_pos _ hp
    have s0 : 0 ≤ b % twoP (8 * k) := Int.emod_nonneg _ (by omega)
    have s1 : b % twoP (8 * k) < twoP (8 * k) := Int.emod_lt_of_pos _ hp
    rw [byte_step a k, byte_step b k]
    unfold putB
    simp only [Lib.bytesOf, List.map_cons, Op.bytesLess] at ih ⊢
    rw [ih]
    have hA : 0 ≤ a / ((2 ^ (k * 8) : Nat) : Int) % 256 ∧ a / ((2 ^ (k * 8) : Nat) : Int) % 256 < 256 := by omega
    have hB : 0 ≤ b / ((2 ^ (k * 8) : Nat) : Int) % 256 ∧ b / ((2 ^ (k * 8) : Nat) : Int) % 256 < 256 := by omega
    generalize a / ((2 ^ (k * 8) : Nat) : Int) % 256 = A at *
    generalize b / ((2 ^ (k * 8) : Nat) : Int) % 256 = B at *
    have e1 := byte_lt hA.1 hA.2 hB.1 hB.2
    have e2 := byte_eq hA.1 hA.2 hB.1 hB.2
    have e3 := lex_lt (A := A) (B := B) r0 r1 s0 s1
    rw [Bool.eq_iff_iff]
    simp only [Bool.or_eq_true, Bool.and_eq_true, decide_eq_true_eq, beq_iff_eq, e1, e2, e3]
theorem less_u64 (a b : Int) (a0 : 0 ≤ a) (a1 : a < 18446744073709551616) (b0 : 0 ≤ b) (b1 : b < 18446744073709551616) :
    Op.bytesLess (strOfNums (putB a 8)).toList (strOfNums (putB b 8)).toList = decide (a < b) := by
  rw [Lib.strOfNums_toList, Lib.strOfNums_toList, less_put, show twoP (8 * 8) = 18446744073709551616 from rfl, Int.emod_eq_of_lt a0 a1, Int.emod_eq_of_lt b0 b1]
end Go.Proofs.Ytoilbmhijjkkaab
