/- Masks as numbers: bits by what they say; those below a label; closing. Nothing of the program. -/
import Derived.Test.YtknjekakncjbgabDoorLabMath
import Derived.Test.YtknjekakncjbgabDoorFitMath
namespace Go.Proofs.YtknjekakncjbgabDoor
open Go.RowKit

theorem u32_or (a b : Nat) (ha : a < 4294967296) (hb : b < 4294967296) : bits BinOp.or IntKind.u32 (a : Int) (b : Int) = ((a ||| b : Nat) : Int) := by
  have h : a ||| b < 2 ^ 32 := Nat.or_lt_two_pow (by omega) (by omega)
  have e1 : (BitVec.ofInt 32 (a : Int) ||| BitVec.ofInt 32 (b : Int)).toNat = a ||| b := by
    rw [BitVec.toNat_or, BitVec.toNat_ofInt, BitVec.toNat_ofInt]
    congr 1 <;> omega
  show IntKind.u32.wrap ((BitVec.ofInt 32 (a : Int) ||| BitVec.ofInt 32 (b : Int)).toNat : Int) = _
  rw [e1]
  generalize a ||| b = y at *
  simp only [IntKind.wrap, IntKind.bits, IntKind.signed]
  simp
  omega
theorem u32_and (a b : Nat) (ha : a < 4294967296) (hb : b < 4294967296) : bits BinOp.and IntKind.u32 (a : Int) (b : Int) = ((a &&& b : Nat) : Int) := by
  have h : a &&& b < 2 ^ 32 := Nat.and_lt_two_pow _ (by omega)
  have e1 : (BitVec.ofInt 32 (a : Int) &&& BitVec.ofInt 32 (b : Int)).toNat = a &&& b := by
    rw [BitVec.toNat_and, BitVec.toNat_ofInt, BitVec.toNat_ofInt]
    congr 1 <;> omega
  show IntKind.u32.wrap ((BitVec.ofInt 32 (a : Int) &&& BitVec.ofInt 32 (b : Int)).toNat : Int) = _
  rw [e1]
  generalize a &&& b = y at *
  simp only [IntKind.wrap, IntKind.bits, IntKind.signed]
  simp
  omega
/-- a &^ b, as numbers. -/
def andNotN (a b : Nat) : Nat := (BitVec.ofInt 32 (a : Int) &&& ~~~ BitVec.ofInt 32 (b : Int)).toNat
theorem u32_andNot (a b : Nat) : bits BinOp.andNot IntKind.u32 (a : Int) (b : Int) = (andNotN a b : Int) := by
  have h := (BitVec.ofInt 32 (a : Int) &&& ~~~ BitVec.ofInt 32 (b : Int)).isLt
  show IntKind.u32.wrap ((BitVec.ofInt 32 (a : Int) &&& ~~~ BitVec.ofInt 32 (b : Int)).toNat : Int) = _
  unfold andNotN
  generalize (BitVec.ofInt 32 (a : Int) &&& ~~~ BitVec.ofInt 32 (b : Int)).toNat = y at *
  simp only [IntKind.wrap, IntKind.bits, IntKind.signed]
  simp
  omega
theorem andNotN_zero {a b : Nat} (h : ∀ i, a.testBit i = true → b.testBit i = true) : andNotN a b = 0 := by
  unfold andNotN
  apply Nat.eq_of_testBit_eq
  intro i
  have ea : (BitVec.ofInt 32 (a : Int)) = BitVec.ofNat 32 a := by simp
  have eb : (BitVec.ofInt 32 (b : Int)) = BitVec.ofNat 32 b := by simp
  rw [ea, eb, BitVec.testBit_toNat, Nat.zero_testBit]
  simp only [BitVec.getLsbD_and, BitVec.getLsbD_not, BitVec.getLsbD_ofNat]
  by_cases h1 : i < 32
  · cases h2 : a.testBit i
    · simp
    · simp [h i h2]
  · simp [h1]

/-- The number below 2^n whose bits are as p says. -/
def mkM : Nat → (Nat → Bool) → Nat
  | 0, _ => 0
  | n + 1, p => mkM n p ||| (if p n then 2 ^ n else 0)
theorem mkM_test (p : Nat → Bool) (i : Nat) : ∀ n, (mkM n p).testBit i = (decide (i < n) && p i)
  | 0 => by simp [mkM]
  | n + 1 => by
    rw [mkM, Nat.testBit_or, mkM_test p i n]
    by_cases h : p n = true
    · rw [if_pos h, Nat.testBit_two_pow]
      by_cases e : n = i
      · subst e; simp [h]
      · have : decide (i < n + 1) = decide (i < n) := by simp; omega
        simp [e, this]
    · rw [if_neg h, Nat.zero_testBit, Bool.or_false]
      by_cases e : n = i
      · subst e; simp [h]
      · have : decide (i < n + 1) = decide (i < n) := by simp; omega
        rw [this]
theorem mkM_lt (p : Nat → Bool) : ∀ n, mkM n p < 2 ^ n
  | 0 => by simp [mkM]
  | n + 1 => by
    rw [mkM]
    refine Nat.or_lt_two_pow (Nat.lt_of_lt_of_le (mkM_lt p n) (Nat.pow_le_pow_right (by decide) (by omega))) ?_
    split
    · exact Nat.pow_lt_pow_right (by decide) (by omega)
    · exact Nat.two_pow_pos _
theorem mkM_congr {n : Nat} {p q : Nat → Bool} (h : ∀ i, i < n → p i = q i) : mkM n p = mkM n q := by
  apply Nat.eq_of_testBit_eq
  intro i
  rw [mkM_test, mkM_test]
  by_cases hi : i < n
  · rw [h i hi]
  · simp [hi]

/-- Does x dominate the i-th of ls? -/
def domAt (ls : List Lb) (x : Lb) (i : Nat) : Bool := match ls[i]? with
  | some y => dm x y
  | none => false
/-- Those of ls that x dominates. -/
def blw (ls : List Lb) (x : Lb) : Nat := mkM ls.length (domAt ls x)
theorem blw_test (ls : List Lb) (x : Lb) (i : Nat) : (blw ls x).testBit i = domAt ls x i := by
  unfold blw
  rw [mkM_test]
  by_cases h : i < ls.length
  · simp [h]
  · simp [h, domAt]
theorem blw_lt (ls : List Lb) (x : Lb) : blw ls x < 2 ^ ls.length := mkM_lt _ _
/-- Those that the i-th dominates; none, if there is no such label. -/
def dwn (ls : List Lb) (i : Nat) : Nat := match ls[i]? with
  | some x => blw ls x
  | none => 0
theorem dwn_lt (ls : List Lb) (i : Nat) : dwn ls i < 2 ^ ls.length := by
  unfold dwn
  split
  · exact blw_lt _ _
  · exact Nat.two_pow_pos _
theorem dwn_some {ls : List Lb} {i : Nat} {x : Lb} (h : ls[i]? = some x) : dwn ls i = blw ls x := by unfold dwn; rw [h]
theorem dwn_none {ls : List Lb} {i : Nat} (h : ls.length ≤ i) : dwn ls i = 0 := by unfold dwn; rw [List.getElem?_eq_none h]
def orAll (ls : List Lb) (ps : List Nat) : Nat := ps.foldl (fun a i => a ||| dwn ls i) 0
theorem orAll_snoc (ls : List Lb) (ps : List Nat) (i : Nat) : orAll ls (ps ++ [i]) = orAll ls ps ||| dwn ls i := by simp [orAll]
theorem orAll_lt (ls : List Lb) (ps : List Nat) : orAll ls ps < 2 ^ ls.length := by
  have : ∀ (qs : List Nat) (a : Nat), a < 2 ^ ls.length → qs.foldl (fun a i => a ||| dwn ls i) a < 2 ^ ls.length := by
    intro qs
    induction qs with
    | nil => intro a h; exact h
    | cons q qs ih => intro a h; exact ih _ (Nat.or_lt_two_pow h (dwn_lt ls q))
  exact this ps 0 (Nat.two_pow_pos _)
theorem orAll_test (ls : List Lb) (k : Nat) (ps : List Nat) : (orAll ls ps).testBit k = true ↔ ∃ i ∈ ps, (dwn ls i).testBit k = true := by
  have : ∀ (qs : List Nat) (a : Nat), (qs.foldl (fun a i => a ||| dwn ls i) a).testBit k = true ↔ a.testBit k = true ∨ ∃ i ∈ qs, (dwn ls i).testBit k = true := by
    intro qs
    induction qs with
    | nil => intro a; simp
    | cons q qs ih =>
      intro a
      rw [List.foldl_cons, ih, Nat.testBit_or]
      simp [or_assoc]
  rw [orAll, this]
  simp
/-- The least closed mask that has those of a mask that are declared. -/
def clo (ls : List Lb) (m : Nat) : Nat := orAll ls (places m)
theorem clo_lt (ls : List Lb) (m : Nat) : clo ls m < 2 ^ ls.length := orAll_lt _ _
theorem mem_places {m i : Nat} : i ∈ places m ↔ i < 64 ∧ m.testBit i = true := by simp [places, List.mem_filter]
theorem dwn_test (ls : List Lb) (i k : Nat) : (dwn ls i).testBit k = true ↔ ∃ x, ls[i]? = some x ∧ domAt ls x k = true := by
  unfold dwn
  cases h : ls[i]? with
  | none => simp
  | some x => simp [blw_test]
theorem clo_test {ls : List Lb} {m k : Nat} (hl : ls.length ≤ 64) : (clo ls m).testBit k = true ↔ ∃ i x, m.testBit i = true ∧ ls[i]? = some x ∧ domAt ls x k = true := by
  unfold clo
  rw [orAll_test]
  constructor
  · rintro ⟨i, hi, hd⟩
    obtain ⟨x, h1, h2⟩ := (dwn_test ls i k).1 hd
    exact ⟨i, x, (mem_places.1 hi).2, h1, h2⟩
  · rintro ⟨i, x, hm, h1, h2⟩
    have := (List.getElem?_eq_some_iff.1 h1).1
    exact ⟨i, mem_places.2 ⟨by omega, hm⟩, (dwn_test ls i k).2 ⟨x, h1, h2⟩⟩
theorem domAt_iff {ls : List Lb} {x : Lb} {k : Nat} : domAt ls x k = true ↔ ∃ y, ls[k]? = some y ∧ dm x y = true := by
  unfold domAt
  cases ls[k]? <;> simp
theorem pow_bd {n : Nat} (h : n ≤ 16) : 2 ^ n ≤ 65536 := Nat.le_trans (Nat.pow_le_pow_right (by decide) h) (by decide)
end Go.Proofs.YtknjekakncjbgabDoor
