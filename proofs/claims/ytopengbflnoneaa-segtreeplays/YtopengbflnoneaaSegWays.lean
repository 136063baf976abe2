/- How many nodes lack on a key's way, told by the keys that were ever put. Plain mathematics. -/
import Derived.Test.YtopengbflnoneaaSegTree
namespace Go.Proofs.Ytopengbflnoneaa
open Go.RowKit

/-- Has no key of K the same beginning, of all but h bits? -/
def miss (K : List Int) (key : Int) (h : Nat) : Bool := K.all (fun k => decide (k / 2 ^ h ≠ key / 2 ^ h))
/-- Of how many beginnings, from all but h bits on, no key of K has the same? -/
def lk (K : List Int) (key : Int) : Nat → Nat
  | 0 => if miss K key 0 = true then 1 else 0
  | h + 1 => lk K key h + (if miss K key (h + 1) = true then 1 else 0)
theorem div_up {k key : Int} {h : Nat} (e : k / 2 ^ h = key / 2 ^ h) : k / 2 ^ (h + 1) = key / 2 ^ (h + 1) := by
  have hp : (0 : Int) ≤ 2 ^ h := Int.le_of_lt (Int.pow_pos (by decide))
  rw [Int.pow_succ, ← Int.ediv_ediv_of_nonneg hp, ← Int.ediv_ediv_of_nonneg hp, e]
theorem div_ups {k key : Int} {h : Nat} (e : k / 2 ^ h = key / 2 ^ h) : ∀ d, k / 2 ^ (h + d) = key / 2 ^ (h + d)
  | 0 => e
  | d + 1 => div_up (div_ups e d)
theorem miss_down {K : List Int} {key : Int} {h : Nat} (hm : miss K key (h + 1) = true) : miss K key h = true := by
  unfold miss at *
  rw [List.all_eq_true] at *
  intro k hk
  have := hm k hk
  simp only [decide_eq_true_eq, ne_eq] at *
  exact fun e => this (div_up e)
theorem miss_downs {K : List Int} {key : Int} {h : Nat} : ∀ d, miss K key (h + d) = true → miss K key h = true
  | 0, hm => hm
  | d + 1, hm => miss_downs d (miss_down hm)
theorem lk_le (K : List Int) (key : Int) : ∀ h, lk K key h ≤ h + 1
  | 0 => by unfold lk; split <;> omega
  | h + 1 => by
    have := lk_le K key h
    unfold lk
    split <;> omega
theorem lk_all {K : List Int} {key : Int} : ∀ {h : Nat}, miss K key h = true → lk K key h = h + 1
  | 0, hm => by unfold lk; rw [if_pos hm]
  | h + 1, hm => by
    have := lk_all (miss_down hm)
    unfold lk
    rw [if_pos hm, this]
theorem lk_up {K : List Int} {key : Int} {h : Nat} (hm : ¬ miss K key (h + 1) = true) : lk K key (h + 1) = lk K key h := by
  rw [lk, if_neg hm, Nat.add_zero]
theorem lk_ups {K : List Int} {key : Int} {h : Nat} (hm : ¬ miss K key h = true) : ∀ d, lk K key (h + d) = lk K key h
  | 0 => rfl
  | d + 1 => by
    rw [← Nat.add_assoc, lk_up (fun e => hm (miss_downs (d + 1) (by rw [← Nat.add_assoc]; exact e))), lk_ups hm d]
theorem miss_cons (k : Int) (K : List Int) (key : Int) (h : Nat) : miss (k :: K) key h = (miss [k] key h && miss K key h) := by simp [miss]
theorem lk_cons (k : Int) (K : List Int) (key : Int) : ∀ h, lk (k :: K) key h = min (lk K key h) (lk [k] key h)
  | 0 => by
    unfold lk
    rw [miss_cons]
    cases miss [k] key 0 <;> cases miss K key 0 <;> rfl
  | h + 1 => by
    have ih := lk_cons k K key h
    have l1 := lk_le K key h
    have l2 := lk_le [k] key h
    by_cases h1 : miss [k] key (h + 1) = true
    · by_cases h2 : miss K key (h + 1) = true
      · rw [lk_all (h := h + 1) (by rw [miss_cons, h1, h2]; rfl), lk_all h1, lk_all h2]; omega
      · have e : ¬ miss (k :: K) key (h + 1) = true := by rw [miss_cons, h1]; simpa using h2
        have e1 := lk_all (miss_down h1)
        rw [lk_up e, ih, lk_up h2, lk_all h1]; omega
    · have e : ¬ miss (k :: K) key (h + 1) = true := by rw [miss_cons]; simp [h1]
      by_cases h2 : miss K key (h + 1) = true
      · have e2 := lk_all (miss_down h2)
        rw [lk_up e, ih, lk_up h1, lk_all h2]; omega
      · rw [lk_up e, ih, lk_up h1, lk_up h2]
theorem lk_nil (key : Int) (h : Nat) : lk [] key h = h + 1 := lk_all rfl
theorem miss_one (k key : Int) (h : Nat) : miss [k] key h = decide (k / 2 ^ h ≠ key / 2 ^ h) := by simp [miss]
/-- Numbers of one span, by their beginning. -/
theorem in_span {q key : Int} {h : Nat} (h0 : 2 ^ h * q ≤ key) (h1 : key < 2 ^ h * q + 2 ^ h) : key / 2 ^ h = q := by
  have hp : (0 : Int) < 2 ^ h := Int.pow_pos (by decide)
  have e : key = (key - 2 ^ h * q) + 2 ^ h * q := by omega
  rw [e, Int.add_mul_ediv_left _ _ (Int.ne_of_gt hp), Int.ediv_eq_zero_of_lt (by omega) (by omega), Int.zero_add]
theorem lack_grow : ∀ (h : Nat) (q lo k key : Int) (n : Nat) (t : Sh), lo = 2 ^ h * q → lo ≤ k → k < lo + 2 ^ h → lo ≤ key → key < lo + 2 ^ h →
    lack h lo key (grow h lo k n t) = min (lack h lo key t) (lk [k] key h)
  | 0, q, lo, k, key, n, t, e, k0, k1, y0, y1 => by
    have ek : k = key := by simp at k1 y1; omega
    have e0 : lk [k] key 0 = 0 := by subst ek; simp [lk, miss]
    rw [e0, Nat.min_zero]
    cases t <;> rfl
  | h + 1, q, lo, k, key, n, t, e, k0, k1, y0, y1 => by
    have e2 : (2 : Int) ^ (h + 1) = 2 ^ h * 2 := Int.pow_succ _ _
    have eq1 : (2 : Int) ^ (h + 1) * q = 2 ^ h * (2 * q) := by rw [e2, Int.mul_assoc]
    have eq2 : (2 : Int) ^ h * (2 * q) + 2 ^ h = 2 ^ h * (2 * q + 1) := by rw [Int.mul_add, Int.mul_one]
    have el : lo = 2 ^ h * (2 * q) := by rw [e, eq1]
    have er : lo + 2 ^ h = 2 ^ h * (2 * q + 1) := by rw [el, eq2]
    have hk := in_span (q := q) (h := h + 1) (key := k) (by omega) (by omega)
    have hy := in_span (q := q) (h := h + 1) (key := key) (by omega) (by omega)
    have hm : ¬ miss [k] key (h + 1) = true := by rw [miss_one, hk, hy]; simp
    rw [lk_up hm]
    have hlk := lk_le [k] key h
    by_cases ck : k < lo + 2 ^ h
    · have dk := in_span (q := 2 * q) (h := h) (key := k) (by omega) (by omega)
      by_cases cy : key < lo + 2 ^ h
      · cases t with
        | nil =>
          have ih := lack_grow h (2 * q) lo k key (n + 1) .nil el k0 ck y0 cy
          rw [lack_nil] at ih
          unfold grow
          rw [if_pos ck]
          conv => lhs; unfold lack
          rw [if_pos cy, ih, lack_nil]; omega
        | node j l r =>
          have ih := lack_grow h (2 * q) lo k key n l el k0 ck y0 cy
          unfold grow
          rw [if_pos ck]
          unfold lack
          rw [if_pos cy, if_pos cy, ih]
      · have dy := in_span (q := 2 * q + 1) (h := h) (key := key) (by omega) (by omega)
        have hall : lk [k] key h = h + 1 := lk_all (by rw [miss_one, dk, dy]; simp; omega)
        rw [hall]
        cases t with
        | nil =>
          unfold grow
          rw [if_pos ck]
          conv => lhs; unfold lack
          rw [if_neg cy, lack_nil, lack_nil]; omega
        | node j l r =>
          have := lack_le h (lo + 2 ^ h) key r
          unfold grow
          rw [if_pos ck]
          unfold lack
          rw [if_neg cy, if_neg cy]; omega
    · have dk := in_span (q := 2 * q + 1) (h := h) (key := k) (by omega) (by omega)
      by_cases cy : key < lo + 2 ^ h
      · have dy := in_span (q := 2 * q) (h := h) (key := key) (by omega) (by omega)
        have hall : lk [k] key h = h + 1 := lk_all (by rw [miss_one, dk, dy]; simp; omega)
        rw [hall]
        cases t with
        | nil =>
          unfold grow
          rw [if_neg ck]
          conv => lhs; unfold lack
          rw [if_pos cy, lack_nil, lack_nil]; omega
        | node j l r =>
          have := lack_le h lo key l
          unfold grow
          rw [if_neg ck]
          unfold lack
          rw [if_pos cy, if_pos cy]; omega
      · cases t with
        | nil =>
          have ih := lack_grow h (2 * q + 1) (lo + 2 ^ h) k key (n + 1) .nil er (by omega) (by omega) (by omega) (by omega)
          rw [lack_nil] at ih
          unfold grow
          rw [if_neg ck]
          conv => lhs; unfold lack
          rw [if_neg cy, ih, lack_nil]; omega
        | node j l r =>
          have ih := lack_grow h (2 * q + 1) (lo + 2 ^ h) k key n r er (by omega) (by omega) (by omega) (by omega)
          unfold grow
          rw [if_neg ck]
          unfold lack
          rw [if_neg cy, if_neg cy, ih]
/-- The shape of a tree into which these keys were ever put (the last one first). -/
def Ways (t : Sh) (K : List Int) : Prop := ∀ key : Int, 0 ≤ key → key < 4294967296 → lack 32 0 key t = lk K key 32
theorem Ways.nil : Ways .nil [] := fun key _ _ => by rw [lack_nil, lk_nil]
theorem Ways.put {t : Sh} {K : List Int} (h : Ways t K) (k : Int) (n : Nat) (k0 : 0 ≤ k) (k1 : k < 4294967296) : Ways (grow 32 0 k n t) (k :: K) := fun key h0 h1 => by
  have e := lack_grow 32 0 0 k key n t (by decide) k0 (by simpa using k1) h0 (by simpa using h1)
  rw [e, h key h0 h1, lk_cons k K]
theorem Ways.mem {t : Sh} {K : List Int} (h : Ways t K) (k : Int) (hk : k ∈ K) (k0 : 0 ≤ k) (k1 : k < 4294967296) : lack 32 0 k t = 0 := by
  rw [h k k0 k1]
  have hm : ¬ miss K k 0 = true := by
    unfold miss
    rw [List.all_eq_true]
    intro hh
    have := hh k hk
    simp at this
  rw [show (32 : Nat) = 0 + 32 from rfl, lk_ups hm 32]
  unfold lk
  rw [if_neg hm]
end Go.Proofs.Ytopengbflnoneaa
