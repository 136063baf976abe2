/- Bits that SegtreeNodes asks for. Nothing of the program. -/
import Derived.Test.YtjhchppgecjhlaaMem
namespace Go.Proofs.Ytjhchppgecjhlaa
open Go.RowKit

theorem and5_nat (m : Nat) : m &&& 5 = 0 ∨ m &&& 5 = 1 ∨ m &&& 5 = 4 ∨ m &&& 5 = 5 := by
  have e : m &&& 5 = (m % 8) &&& 5 := by
    rw [← Nat.and_two_pow_sub_one_eq_mod m 3, Nat.and_assoc]
    rfl
  rw [e]
  have h : m % 8 < 8 := Nat.mod_lt _ (by decide)
  generalize m % 8 = r at *
  have : ∀ r, r < 8 → r &&& 5 = 0 ∨ r &&& 5 = 1 ∨ r &&& 5 = 4 ∨ r &&& 5 = 5 := by decide
  exact this r h
theorem and_5 (m : Int) : bits BinOp.and IntKind.i64 m 5 = 0 ∨ bits BinOp.and IntKind.i64 m 5 = 1 ∨ bits BinOp.and IntKind.i64 m 5 = 4 ∨ bits BinOp.and IntKind.i64 m 5 = 5 := by
  have e : bits BinOp.and IntKind.i64 m 5 = IntKind.i64.wrap (((BitVec.ofInt 64 m).toNat &&& 5 : Nat) : Int) := by
    show IntKind.i64.wrap ((BitVec.ofInt 64 m &&& BitVec.ofInt 64 5).toNat : Int) = _
    rw [BitVec.toNat_and]
    rfl
  rw [e]
  rcases and5_nat (BitVec.ofInt 64 m).toNat with h | h | h | h <;> rw [h] <;> decide
theorem high_nat (a n : Nat) (ha : a < 2 ^ 32) (hn : n ≤ 32) : a &&& ((2 ^ (32 - n) - 1) <<< n) = a / 2 ^ n * 2 ^ n := by
  apply Nat.eq_of_testBit_eq
  intro i
  rw [Nat.testBit_and, Nat.testBit_shiftLeft, Nat.testBit_two_pow_sub_one, ← Nat.shiftRight_eq_div_pow, ← Nat.shiftLeft_eq, Nat.testBit_shiftLeft, Nat.testBit_shiftRight]
  by_cases h : n ≤ i
  · have e : n + (i - n) = i := by omega
    rw [e]
    by_cases h2 : i < 32
    · have : i - n < 32 - n := by omega
      simp [h, this]
    · have : a.testBit i = false := Nat.testBit_lt_two_pow (Nat.lt_of_lt_of_le ha (Nat.pow_le_pow_right (by decide) (by omega)))
      simp [this]
  · simp [h]
theorem andNot_low (a : Int) (n : Nat) (h0 : 0 ≤ a) (h1 : a < 4294967296) (hn : n = 0 ∨ n = 1 ∨ n = 4 ∨ n = 5) : bits BinOp.andNot IntKind.u32 a (2 ^ n - 1) = a / 2 ^ n * 2 ^ n := by
  obtain ⟨m, rfl⟩ : ∃ m : Nat, a = m := ⟨a.toNat, by omega⟩
  have hm : m < 2 ^ 32 := by omega
  have key : ∀ n : Nat, (n = 0 ∨ n = 1 ∨ n = 4 ∨ n = 5) → (BitVec.ofInt 32 (m : Int) &&& ~~~ BitVec.ofInt 32 (2 ^ n - 1)).toNat = m / 2 ^ n * 2 ^ n := by
    intro n hn
    have e2 : (~~~ BitVec.ofInt 32 (2 ^ n - 1)).toNat = (2 ^ (32 - n) - 1) <<< n := by rcases hn with rfl | rfl | rfl | rfl <;> decide
    have e1 : (BitVec.ofInt 32 (m : Int)).toNat = m := by
      rw [BitVec.toNat_ofInt]
      omega
    rw [BitVec.toNat_and, e1, e2, high_nat m n hm (by omega)]
  have hk := key n hn
  show IntKind.u32.wrap ((BitVec.ofInt 32 (m : Int) &&& ~~~ BitVec.ofInt 32 (2 ^ n - 1)).toNat : Int) = _
  rw [hk, IntKind.wrap_u32]
  have hle : m / 2 ^ n * 2 ^ n ≤ m := Nat.div_mul_le_self _ _
  have ec : ((m / 2 ^ n * 2 ^ n : Nat) : Int) = (m : Int) / 2 ^ n * 2 ^ n := by simp
  rw [← ec]
  omega
theorem xor_far (a : Int) (h0 : 0 ≤ a) (h1 : a < 4294967296) : ∃ f : Int, bits BinOp.xor IntKind.u32 a 2147483648 = f ∧ 0 ≤ f ∧ f < 4294967296 ∧ f / 2 ^ 31 ≠ a / 2 ^ 31 := by
  obtain ⟨m, rfl⟩ : ∃ m : Nat, a = m := ⟨a.toNat, by omega⟩
  have hm : m < 2 ^ 32 := by omega
  have e1 : (BitVec.ofInt 32 (m : Int)).toNat = m := by
    rw [BitVec.toNat_ofInt]
    omega
  have e3 : (BitVec.ofInt 32 (m : Int) ^^^ BitVec.ofInt 32 2147483648).toNat = m ^^^ 2 ^ 31 := by
    rw [BitVec.toNat_xor, e1]
    rfl
  have hlt : m ^^^ 2 ^ 31 < 2 ^ 32 := Nat.xor_lt_two_pow hm (by decide)
  have hs : (m ^^^ 2 ^ 31) >>> 31 = (m >>> 31) ^^^ 1 := by rw [Nat.shiftRight_xor_distrib]; rfl
  have hd : (m ^^^ 2 ^ 31) / 2 ^ 31 ≠ m / 2 ^ 31 := by
    rw [← Nat.shiftRight_eq_div_pow, ← Nat.shiftRight_eq_div_pow, hs]
    have : m >>> 31 < 2 := by rw [Nat.shiftRight_eq_div_pow]; omega
    generalize m >>> 31 = r at *
    have : ∀ r, r < 2 → r ^^^ 1 ≠ r := by decide
    exact this r (by assumption)
  refine ⟨((m ^^^ 2 ^ 31 : Nat) : Int), ?_, by omega, by omega, fun e => hd (by omega)⟩
  show IntKind.u32.wrap ((BitVec.ofInt 32 (m : Int) ^^^ BitVec.ofInt 32 2147483648).toNat : Int) = _
  rw [e3, IntKind.wrap_u32]
  omega
end Go.Proofs.Ytjhchppgecjhlaa
