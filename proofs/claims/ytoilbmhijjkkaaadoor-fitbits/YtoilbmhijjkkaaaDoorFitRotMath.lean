/- Plain numbers: turning round, counting bits, telling a number by its places. -/
import Derived.Test.YtoilbmhijjkkaaaDoorFitOf
import Derived.Test.YtoilbmhijjkkaaaDoorFitInt
namespace Go.Proofs.YtoilbmhijjkkaaaDoor
open Go.RowKit

theorem bit_none (n i : Nat) (h : n < 18446744073709551616) (hi : 64 ≤ i) : n.testBit i = false :=
  Nat.testBit_lt_two_pow (Nat.lt_of_lt_of_le (show n < 2 ^ 64 from h) (Nat.pow_le_pow_right (by decide) hi))

theorem rot_bit (n s i : Nat) (hn : n < 18446744073709551616) (hs : s < 64) : (rotN n s).testBit i = (decide (i < 64) && n.testBit ((i + 64 - s) % 64)) := by
  unfold rotN
  rw [Nat.testBit_or, show (18446744073709551616 : Nat) = 2 ^ 64 from rfl, Nat.testBit_mod_two_pow, Nat.testBit_mul_two_pow, Nat.testBit_div_two_pow]
  by_cases hi : i < 64
  · by_cases hsi : s ≤ i
    · have e1 : (i + 64 - s) % 64 = i - s := by omega
      have e2 : n.testBit (i + (64 - s)) = false := bit_none n _ hn (by omega)
      simp [hi, hsi, e1, e2]
    · have e1 : (i + 64 - s) % 64 = i + (64 - s) := by omega
      simp [hi, hsi, e1]
  · have e2 : n.testBit (i + (64 - s)) = false := bit_none n _ hn (by omega)
    simp [hi, e2]

theorem lt_of_bits (n : Nat) (h : ∀ i, 64 ≤ i → n.testBit i = false) : n < 18446744073709551616 := by
  have := Nat.lt_pow_two_of_testBit (n := 64) n (fun i hi => h i hi)
  exact this
theorem rot_lt (n s : Nat) (hn : n < 18446744073709551616) (hs : s < 64) : rotN n s < 18446744073709551616 := by
  apply lt_of_bits
  intro i hi
  rw [rot_bit n s i hn hs]
  have : ¬ i < 64 := by omega
  simp [this]

theorem rot_rot (n s t : Nat) (hn : n < 18446744073709551616) (hs : s < 64) (ht : t < 64) : rotN (rotN n s) t = rotN n ((s + t) % 64) := by
  apply Nat.eq_of_testBit_eq
  intro i
  rw [rot_bit _ t i (rot_lt n s hn hs) ht, rot_bit n s _ hn hs, rot_bit n _ i hn (by omega)]
  have h1 : (i + 64 - t) % 64 < 64 := by omega
  simp only [h1, decide_true, Bool.true_and]
  by_cases hi : i < 64
  · have e : ((i + 64 - t) % 64 + 64 - s) % 64 = (i + 64 - (s + t) % 64) % 64 := by omega
    rw [e]
  · simp [hi]
theorem rot_zero (n : Nat) (hn : n < 18446744073709551616) : rotN n 0 = n := by
  unfold rotN
  have e : n / 2 ^ (64 - 0) = 0 := Nat.div_eq_of_lt hn
  rw [e, Nat.pow_zero, Nat.mul_one, Nat.mod_eq_of_lt hn, Nat.or_zero]
theorem rot_xor (a b s : Nat) (ha : a < 18446744073709551616) (hb : b < 18446744073709551616) (hs : s < 64) : rotN (a ^^^ b) s = rotN a s ^^^ rotN b s := by
  have hab : a ^^^ b < 18446744073709551616 := Nat.xor_lt_two_pow (n := 64) ha hb
  apply Nat.eq_of_testBit_eq
  intro i
  rw [rot_bit _ s i hab hs, Nat.testBit_xor, Nat.testBit_xor, rot_bit a s i ha hs, rot_bit b s i hb hs]
  cases decide (i < 64) <;> simp

theorem places_count (n : Nat) : (places n).length = (List.range 64).countP n.testBit := by
  unfold places
  rw [List.countP_eq_length_filter]
theorem count_turn (p : Nat → Bool) (s : Nat) (hs : s < 64) : (List.range 64).countP (fun i => p ((i + 64 - s) % 64)) = (List.range 64).countP p := by
  have e1 : List.range 64 = List.range s ++ (List.range (64 - s)).map (s + ·) := by
    rw [← List.range_add, show s + (64 - s) = 64 from by omega]
  have e2 : List.range 64 = List.range (64 - s) ++ (List.range s).map (64 - s + ·) := by
    rw [← List.range_add, show 64 - s + s = 64 from by omega]
  conv => lhs; rw [e1]
  conv => rhs; rw [e2]
  rw [List.countP_append, List.countP_append, List.countP_map, List.countP_map, Nat.add_comm]
  congr 1
  · apply List.countP_congr
    intro i hi
    have : i < 64 - s := by simpa using hi
    have e : (s + i + 64 - s) % 64 = i := by omega
    simp [e]
  · apply List.countP_congr
    intro i hi
    have : i < s := by simpa using hi
    have e : (i + 64 - s) % 64 = 64 - s + i := by omega
    simp [e]
theorem places_rot (n s : Nat) (hn : n < 18446744073709551616) (hs : s < 64) : (places (rotN n s)).length = (places n).length := by
  rw [places_count, places_count, ← count_turn n.testBit s hs]
  apply List.countP_congr
  intro i hi
  have : i < 64 := by simpa using hi
  rw [rot_bit n s i hn hs]
  simp [this]

theorem countP_both (p q : Nat → Bool) (l : List Nat) : l.countP (fun i => p i && q i) + l.countP (fun i => p i || q i) = l.countP p + l.countP q := by
  induction l with
  | nil => simp
  | cons x l ih =>
    simp only [List.countP_cons]
    cases p x <;> cases q x <;> simp <;> omega
theorem places_both (a b : Nat) : (places (a &&& b)).length + (places (a ||| b)).length = (places a).length + (places b).length := by
  rw [places_count, places_count, places_count, places_count, ← countP_both a.testBit b.testBit]
  congr 1
  · apply List.countP_congr; intro i _; rw [Nat.testBit_and]
  · apply List.countP_congr; intro i _; rw [Nat.testBit_or]

theorem foldl_bit : ∀ (zs : List Int) (m i : Nat), (zs.foldl putBit m).testBit i = (m.testBit i || decide ((i : Int) ∈ zs ∧ i < 64))
  | [], m, i => by simp
  | z :: zs, m, i => by
    rw [List.foldl_cons, foldl_bit zs]
    unfold putBit
    split
    · rename_i hz
      rw [Nat.testBit_or, Nat.testBit_two_pow]
      by_cases hzi : z.toNat = i
      · have : (i : Int) = z := by omega
        have h64 : i < 64 := by omega
        simp [hzi, this, h64]
      · have : ¬ (i : Int) = z := by omega
        simp [hzi, this]
    · rename_i hz
      by_cases h64 : i < 64
      · have : ¬ (i : Int) = z := by omega
        simp [this]
      · simp [h64]
theorem of_bit (zs : List Int) (i : Nat) : (ofN zs).testBit i = decide ((i : Int) ∈ zs ∧ i < 64) := by
  unfold ofN
  rw [foldl_bit]
  simp

def intsOf (l : List Nat) : List Int := l.map fun p : Nat => (p : Int)
theorem ints_of (l : List Nat) : ints (intsOf l) = rowOf l := by simp [ints, intsOf, rowOf]
theorem mem_places (n i : Nat) (hn : n < 18446744073709551616) : ((i : Int) ∈ intsOf (places n) ∧ i < 64) ↔ n.testBit i = true := by
  constructor
  · rintro ⟨h, _⟩
    obtain ⟨a, ha, hai⟩ := List.mem_map.1 h
    have : a = i := by omega
    subst this
    exact (List.mem_filter.1 ha).2
  · intro h
    have h64 : i < 64 := by
      apply Nat.lt_of_not_le
      intro hle
      rw [bit_none n i hn hle] at h
      cases h
    exact ⟨List.mem_map.2 ⟨i, List.mem_filter.2 ⟨by simpa using h64, h⟩, rfl⟩, h64⟩
theorem of_places (n : Nat) (hn : n < 18446744073709551616) : ofN (intsOf (places n)) = n := by
  apply Nat.eq_of_testBit_eq
  intro i
  rw [of_bit, Bool.eq_iff_iff, decide_eq_true_iff]
  exact mem_places n i hn
theorem of_places_two (a b : Nat) (ha : a < 18446744073709551616) (hb : b < 18446744073709551616) : ofN (intsOf (places a ++ places b)) = a ||| b := by
  apply Nat.eq_of_testBit_eq
  intro i
  rw [of_bit, Nat.testBit_or]
  have h1 := mem_places a i ha
  have h2 := mem_places b i hb
  have e : ((i : Int) ∈ intsOf (places a ++ places b) ∧ i < 64) ↔ (a.testBit i = true ∨ b.testBit i = true) := by
    rw [← h1, ← h2]
    simp only [intsOf, List.map_append, List.mem_append]
    constructor
    · rintro ⟨h | h, h64⟩
      · exact .inl ⟨h, h64⟩
      · exact .inr ⟨h, h64⟩
    · rintro (⟨h, h64⟩ | ⟨h, h64⟩)
      · exact ⟨.inl h, h64⟩
      · exact ⟨.inr h, h64⟩
  rw [Bool.eq_iff_iff, decide_eq_true_iff, Bool.or_eq_true]
  exact e

/-! At whatever numbers stand at the call. -/
theorem rotI_bd (n b : Int) (h0 : 0 ≤ n) (h1 : n < 18446744073709551616) : 0 ≤ rotI n b ∧ rotI n b < 18446744073709551616 := by
  unfold rotI
  have := rot_lt n.toNat (b % 64).toNat (by omega) (by omega)
  omega
theorem rotI_rotI (n b c : Int) (h0 : 0 ≤ n) (h1 : n < 18446744073709551616) : rotI (rotI n b) c = rotI n (b + c) := by
  unfold rotI
  rw [Int.toNat_natCast, rot_rot _ _ _ (by omega) (by omega) (by omega)]
  congr 2
  omega
theorem rotI_zero (n : Int) (h0 : 0 ≤ n) (h1 : n < 18446744073709551616) (b : Int) (hb : b % 64 = 0) : rotI n b = n := by
  unfold rotI
  rw [hb, show (0 : Int).toNat = 0 from rfl, rot_zero _ (by omega)]
  omega
theorem rotI_mod (n b c : Int) (h : b % 64 = c % 64) : rotI n b = rotI n c := by unfold rotI; rw [h]
/-- How many bits are 1. -/
def pcI (n : Int) : Nat := (places n.toNat).length
theorem pcI_rot (n b : Int) (h0 : 0 ≤ n) (h1 : n < 18446744073709551616) : pcI (rotI n b) = pcI n := by
  unfold pcI rotI
  rw [Int.toNat_natCast, places_rot _ _ (by omega) (by omega)]
theorem pcI_le (n : Int) : pcI n ≤ 64 := places_length _
end Go.Proofs.YtoilbmhijjkkaaaDoor
