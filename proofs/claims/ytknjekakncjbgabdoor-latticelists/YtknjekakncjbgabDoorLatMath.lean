/- Masks and closing: what the laws ask, as numbers. Nothing of the program. -/
import Derived.Test.YtknjekakncjbgabDoorLatMask
namespace Go.Proofs.YtknjekakncjbgabDoor
open Go.RowKit

/-- All bits from n on. -/
def noneM (n : Nat) : Nat := 4294967296 - 2 ^ n
theorem noneM_mul {n : Nat} (h : n ≤ 32) : noneM n = 2 ^ n * (2 ^ (32 - n) - 1) := by
  have e : 2 ^ n * 2 ^ (32 - n) = 4294967296 := by rw [← Nat.pow_add, show n + (32 - n) = 32 from by omega]
  unfold noneM
  rw [Nat.mul_sub, e, Nat.mul_one]
theorem noneM_test {n i : Nat} (h : n ≤ 32) (hi : i < n) : (noneM n).testBit i = false := by
  rw [noneM_mul h, Nat.testBit_two_pow_mul]
  simp
  omega
theorem wrap_none {n : Nat} (h : n ≤ 16) : IntKind.u32.wrap (4294967295 * 2 ^ n) = ((noneM n : Nat) : Int) := by
  have e : (2 : Int) ^ n = ((2 ^ n : Nat) : Int) := by simp
  have h1 := pow_bd h
  have h2 := Nat.two_pow_pos n
  rw [e, IntKind.wrap_u32]
  unfold noneM
  generalize (2 ^ n : Nat) = q at *
  omega
theorem noneM_pos {n : Nat} (h : n ≤ 16) : 0 < noneM n ∧ noneM n < 4294967296 := by
  have h1 := pow_bd h
  have h2 := Nat.two_pow_pos n
  unfold noneM
  omega

section
variable {ls : List Lb}
theorem clo_ext {m : Nat} {S : Nat} (hl : ls.length ≤ 64) (h : ∀ k, (∃ i x, m.testBit i = true ∧ ls[i]? = some x ∧ domAt ls x k = true) ↔ S.testBit k = true) : clo ls m = S := by
  apply Nat.eq_of_testBit_eq
  intro k
  rw [Bool.eq_iff_iff, clo_test hl]
  exact h k
theorem clo_one {i : Nat} (hl : ls.length ≤ 64) : clo ls (2 ^ i) = dwn ls i := by
  refine clo_ext hl fun k => ?_
  rw [dwn_test]
  constructor
  · rintro ⟨i', x, h1, h2⟩
    rw [Nat.testBit_two_pow] at h1
    obtain rfl : i = i' := by simpa using h1
    exact ⟨x, h2⟩
  · rintro ⟨x, h2⟩
    exact ⟨i, x, by rw [Nat.testBit_two_pow]; simp, h2⟩
theorem clo_or (x y : Nat) (hl : ls.length ≤ 64) : clo ls (x ||| y) = clo ls x ||| clo ls y := by
  refine clo_ext hl fun k => ?_
  rw [Nat.testBit_or, Bool.or_eq_true, clo_test hl, clo_test hl]
  constructor
  · rintro ⟨i, z, h1, h2⟩
    rw [Nat.testBit_or, Bool.or_eq_true] at h1
    rcases h1 with h1 | h1
    · exact .inl ⟨i, z, h1, h2⟩
    · exact .inr ⟨i, z, h1, h2⟩
  · rintro (⟨i, z, h1, h2⟩ | ⟨i, z, h1, h2⟩)
    · exact ⟨i, z, by rw [Nat.testBit_or, h1, Bool.true_or], h2⟩
    · exact ⟨i, z, by rw [Nat.testBit_or, h1, Bool.or_true], h2⟩
theorem clo_none {m : Nat} (hl : ls.length ≤ 64) (h : ∀ i, i < ls.length → m.testBit i = false) : clo ls m = 0 := by
  refine clo_ext hl fun k => ?_
  rw [Nat.zero_testBit]
  constructor
  · rintro ⟨i, z, h1, h2, _⟩
    rw [h i (List.getElem?_eq_some_iff.1 h2).1] at h1
    exact h1
  · intro h; cases h
theorem clo_zero (hl : ls.length ≤ 64) : clo ls 0 = 0 := clo_none hl (fun i _ => Nat.zero_testBit i)

/-- A mask that has with each one all those that it dominates. -/
theorem clo_of {S : Nat} (hl : ls.length ≤ 64) (hok : ∀ y ∈ ls, y.ok) (hS : S < 2 ^ ls.length) (h : ∀ i x k y, S.testBit i = true → ls[i]? = some x → ls[k]? = some y → dm x y = true → S.testBit k = true) : clo ls S = S := by
  refine clo_ext hl fun k => ⟨?_, fun hk => ?_⟩
  · rintro ⟨i, x, h1, h2, h3⟩
    obtain ⟨y, h4, h5⟩ := domAt_iff.1 h3
    exact h i x k y h1 h2 h4 h5
  · have hkn : k < ls.length := by
      apply Nat.lt_of_not_le
      intro hle
      rw [Nat.testBit_lt_two_pow (Nat.lt_of_lt_of_le hS (Nat.pow_le_pow_right (by decide) hle))] at hk
      cases hk
    have hz : ls[k]? = some ls[k] := List.getElem?_eq_getElem hkn
    exact ⟨k, _, hk, hz, domAt_iff.2 ⟨_, hz, dm_self (hok _ (List.getElem_mem hkn))⟩⟩
theorem clo_clo (m : Nat) (hl : ls.length ≤ 64) (hok : ∀ y ∈ ls, y.ok) : clo ls (clo ls m) = clo ls m := by
  refine clo_of hl hok (clo_lt ls m) fun i x k y h1 h2 h3 h4 => ?_
  obtain ⟨i', x', g1, g2, g3⟩ := (clo_test hl).1 h1
  obtain ⟨x2, g4, g5⟩ := domAt_iff.1 g3
  rw [h2] at g4
  cases g4
  exact (clo_test hl).2 ⟨i', x', g1, g2, domAt_iff.2 ⟨y, h3, dm_trans g5 h4⟩⟩
theorem blw_in {a : Lb} {i k : Nat} {x y : Lb} (h1 : (blw ls a).testBit i = true) (h2 : ls[i]? = some x) (h3 : ls[k]? = some y) (h4 : dm x y = true) : (blw ls a).testBit k = true := by
  rw [blw_test] at *
  obtain ⟨x2, g1, g2⟩ := domAt_iff.1 h1
  rw [h2] at g1
  cases g1
  exact domAt_iff.2 ⟨y, h3, dm_trans g2 h4⟩
theorem clo_blw (a : Lb) (hl : ls.length ≤ 64) (hok : ∀ y ∈ ls, y.ok) : clo ls (blw ls a) = blw ls a := clo_of hl hok (blw_lt ls a) fun _ _ _ _ h1 h2 h3 h4 => blw_in h1 h2 h3 h4
theorem clo_blw_or (a b : Lb) (hl : ls.length ≤ 64) (hok : ∀ y ∈ ls, y.ok) : clo ls (blw ls a ||| blw ls b) = blw ls a ||| blw ls b := by
  rw [clo_or _ _ hl, clo_blw a hl hok, clo_blw b hl hok]
theorem clo_blw_and (a b : Lb) (hl : ls.length ≤ 64) (hok : ∀ y ∈ ls, y.ok) : clo ls (blw ls a &&& blw ls b) = blw ls a &&& blw ls b := by
  refine clo_of hl hok (Nat.lt_of_le_of_lt Nat.and_le_left (blw_lt ls a)) fun _ _ _ _ h1 h2 h3 h4 => ?_
  rw [Nat.testBit_and, Bool.and_eq_true] at *
  exact ⟨blw_in h1.1 h2 h3 h4, blw_in h1.2 h2 h3 h4⟩
theorem blw_mt {a b : Lb} (ha : a.ok) (hb : b.ok) (hok : ∀ y ∈ ls, y.ok) : blw ls (mt a b) = blw ls a &&& blw ls b := by
  apply Nat.eq_of_testBit_eq
  intro k
  rw [Nat.testBit_and, blw_test, blw_test, blw_test]
  unfold domAt
  cases h : ls[k]? with
  | none => rfl
  | some y => exact mt_dm ha hb (hok y (List.mem_of_getElem? h))
theorem dm_jn_left {a b y : Lb} (h : dm a y = true) : dm (jn a b) y = true := by
  rw [dm_iff] at *
  rw [← jn_assoc, jn_comm b y, jn_assoc, h]
theorem dm_jn_right {a b y : Lb} (h : dm b y = true) : dm (jn a b) y = true := by rw [jn_comm]; exact dm_jn_left h
theorem blw_jn (a b : Lb) : blw ls (jn a b) &&& (blw ls a ||| blw ls b) = blw ls a ||| blw ls b := by
  apply Nat.eq_of_testBit_eq
  intro k
  rw [Nat.testBit_and, Nat.testBit_or, blw_test, blw_test, blw_test]
  unfold domAt
  cases h : ls[k]? with
  | none => rfl
  | some y =>
    show (dm (jn a b) y && (dm a y || dm b y)) = (dm a y || dm b y)
    cases h1 : dm a y
    · cases h2 : dm b y
      · simp
      · simp [dm_jn_right h2]
    · simp [dm_jn_left h1]
theorem clo_has {m : Nat} (hl : ls.length ≤ 64) (hok : ∀ y ∈ ls, y.ok) (hm : m < 2 ^ ls.length) : clo ls m &&& m = m := by
  apply Nat.eq_of_testBit_eq
  intro k
  rw [Nat.testBit_and]
  cases h : m.testBit k
  · simp
  · have hkn : k < ls.length := by
      apply Nat.lt_of_not_le
      intro hle
      rw [Nat.testBit_lt_two_pow (Nat.lt_of_lt_of_le hm (Nat.pow_le_pow_right (by decide) hle))] at h
      cases h
    have hz : ls[k]? = some ls[k] := List.getElem?_eq_getElem hkn
    rw [(clo_test hl).2 ⟨k, _, h, hz, domAt_iff.2 ⟨_, hz, dm_self (hok _ (List.getElem_mem hkn))⟩⟩]
    rfl
theorem dwn_self {i : Nat} (hok : ∀ y ∈ ls, y.ok) (hi : i < ls.length) : (dwn ls i).testBit i = true := by
  have hz : ls[i]? = some ls[i] := List.getElem?_eq_getElem hi
  exact (dwn_test ls i i).2 ⟨_, hz, domAt_iff.2 ⟨_, hz, dm_self (hok _ (List.getElem_mem hi))⟩⟩
theorem dwn_sub {i n : Nat} (h : (dwn ls i).testBit n = true) : andNotN (dwn ls n) (dwn ls i) = 0 := by
  refine andNotN_zero fun k hk => ?_
  obtain ⟨x, h1, h2⟩ := (dwn_test ls i n).1 h
  obtain ⟨y, h3, h4⟩ := domAt_iff.1 h2
  obtain ⟨y2, h5, h6⟩ := (dwn_test ls n k).1 hk
  rw [h3] at h5
  cases h5
  obtain ⟨z, h7, h8⟩ := domAt_iff.1 h6
  exact (dwn_test ls i k).2 ⟨x, h1, domAt_iff.2 ⟨z, h7, dm_trans h4 h8⟩⟩
end
/-- The bit at i, as the program takes it. -/
theorem bit_at {d i : Nat} (hd : d < 4294967296) : bits BinOp.and IntKind.u32 ((d : Int) / 2 ^ i) 1 = if d.testBit i then 1 else 0 := by
  have e : (d : Int) / 2 ^ i = ((d / 2 ^ i : Nat) : Int) := by simp
  have h1 : d / 2 ^ i ≤ d := Nat.div_le_self _ _
  rw [e, show (1 : Int) = ((1 : Nat) : Int) from rfl, u32_and _ 1 (by omega) (by omega), Nat.and_one_is_mod, Nat.testBit_eq_decide_div_mod_eq]
  by_cases h : d / 2 ^ i % 2 = 1
  · simp [h]
  · have : d / 2 ^ i % 2 = 0 := by omega
    simp [this]
end Go.Proofs.YtknjekakncjbgabDoor
