/- Times as numbers: what is later, and the least of times. -/
import Derived.Test.YthfiepgonjfapaaMem
namespace Go.Proofs.Ythfiepgonjfapaa
open Go.RowKit

/-- A number of an int64. -/
def inI (z : Int) : Prop := -9223372036854775808 ≤ z ∧ z ≤ 9223372036854775807
theorem inI_of {z : Int} (h : (Lit.int .i64 z).wf = true) : inI z := by
  have e1 : IntKind.i64.min = -9223372036854775808 := by decide
  have e2 : IntKind.i64.max = 9223372036854775807 := by decide
  simp [Lit.wf, e1, e2] at h
  exact ⟨by omega, by omega⟩

/-- The time that is n later. -/
def later (c n : Int) : Int := if n ≤ 0 then c else if 1125899906842624 - c < n then 1125899906842624 else c + n
theorem later_no {c n : Int} (h : n ≤ 0) : later c n = c := if_pos h
theorem later_end {c n : Int} (h : 0 < n) (h2 : 1125899906842624 - c < n) : later c n = 1125899906842624 := by
  unfold later
  rw [if_neg (by omega), if_pos h2]
theorem later_sum {c n : Int} (h : 0 < n) (h2 : ¬ 1125899906842624 - c < n) : later c n = c + n := by
  unfold later
  rw [if_neg (by omega), if_neg h2]
theorem later_le {c n : Int} (h : c ≤ 1125899906842624) : later c n ≤ 1125899906842624 := by
  unfold later
  split
  · omega
  · split <;> omega
theorem later_ge {c n : Int} (h : c ≤ 1125899906842624) : c ≤ later c n := by
  unfold later
  split
  · omega
  · split <;> omega
/-- Of more ticks. -/
def lates (c : Int) (zs : List Int) : Int := zs.foldl later c
theorem lates_snoc (c : Int) (zs : List Int) (z : Int) : lates c (zs ++ [z]) = later (lates c zs) z := by simp [lates]
theorem lates_ok (zs : List Int) : ∀ c : Int, 0 ≤ c → c ≤ 1125899906842624 → 0 ≤ lates c zs ∧ lates c zs ≤ 1125899906842624 := by
  induction zs with
  | nil => intro c h0 h1; exact ⟨h0, h1⟩
  | cons z zs ih =>
    intro c h0 h1
    have := later_ge (n := z) h1
    exact ih (later c z) (by omega) (later_le h1)

/-- The least so far, and one more. -/
def lst (o t : Int) : Int := if t < 0 then (if o = 0 ∨ 1 < o then 1 else o) else if t = 0 then o else if o = 0 ∨ t < o then t else o
def least (zs : List Int) : Int := zs.foldl lst 0
theorem least_snoc (zs : List Int) (z : Int) : least (zs ++ [z]) = lst (least zs) z := by simp [least]

theorem vals_get {zs : List Int} {j : Nat} {v : Int} (h : zs[j]? = some v) : (vals .i64 zs).getD j undef = .int .i64 v := by
  simp [vals, List.getD_eq_getElem?_getD, h]
theorem take_succ {zs : List Int} {j : Nat} {v : Int} (h : zs[j]? = some v) : zs.take (j + 1) = zs.take j ++ [v] := by
  rw [List.take_add_one, h]; rfl
end Go.Proofs.Ythfiepgonjfapaa
