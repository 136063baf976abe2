/- Keys that stand together: how many nodes they need. Plain mathematics. -/
import Derived.Test.YtjhchppgecjhlaaSegWays
namespace Go.Proofs.Ytjhchppgecjhlaa
open Go.RowKit

/-- The first m numbers, the last one first. -/
def downs : Nat → List Int
  | 0 => []
  | m + 1 => (m : Int) :: downs m
theorem downs_mem : ∀ (m : Nat) (x : Int), x ∈ downs m ↔ 0 ≤ x ∧ x < m
  | 0, x => by
    simp [downs]
    try omega
  | m + 1, x => by
    rw [downs, List.mem_cons, downs_mem m x]
    omega
/-- Beginnings of numbers from fr on are those of the numbers, where fr has noughts. -/
theorem div_from {q x : Int} {n h : Nat} (hn : h ≤ n) : (2 ^ n * q + x) / 2 ^ h = 2 ^ (n - h) * q + x / 2 ^ h := by
  have hp : (2 : Int) ^ h ≠ 0 := Int.ne_of_gt (Int.pow_pos (by decide))
  have e : (2 : Int) ^ n = 2 ^ h * 2 ^ (n - h) := by
    rw [← Int.pow_add]
    congr 1
    omega
  rw [e, Int.mul_assoc, Int.add_comm, Int.add_mul_ediv_left _ _ hp, Int.add_comm]
theorem miss_from {q : Int} {n : Nat} (K : List Int) (x : Int) {h : Nat} (hn : h ≤ n) : miss (K.map (fun k => 2 ^ n * q + k)) (2 ^ n * q + x) h = miss K x h := by
  unfold miss
  rw [List.all_map]
  congr 1
  funext k
  simp only [Function.comp]
  rw [div_from hn, div_from hn]
  by_cases hh : k / 2 ^ h = x / 2 ^ h
  · simp [hh]
  · have : ¬ 2 ^ (n - h) * q + k / 2 ^ h = 2 ^ (n - h) * q + x / 2 ^ h := by omega
    simp [hh, this]
theorem lk_from {q : Int} {n : Nat} (K : List Int) (x : Int) : ∀ {h : Nat}, h ≤ n → lk (K.map (fun k => 2 ^ n * q + k)) (2 ^ n * q + x) h = lk K x h
  | 0, hn => by unfold lk; rw [miss_from K x hn]
  | h + 1, hn => by
    unfold lk
    rw [miss_from K x hn, lk_from K x (by omega)]
/-- How many nodes the x-th number wants, behind those ahead of it. -/
def wants (n x : Nat) : Nat := if x = 0 then 33 else lk (downs x) x n
theorem lk_wants {q : Int} {n x : Nat} (hn : n ≤ 32) (hx : x < 2 ^ n) : lk ((downs x).map (fun k => 2 ^ n * q + k)) (2 ^ n * q + x) 32 = wants n x := by
  unfold wants
  by_cases h0 : x = 0
  · subst h0
    rw [if_pos rfl]
    exact lk_nil _ _
  · rw [if_neg h0]
    have hm : ¬ miss ((downs x).map (fun k => 2 ^ n * q + k)) (2 ^ n * q + x) n = true := by
      rw [miss_from _ _ (Nat.le_refl n)]
      intro hh
      unfold miss at hh
      rw [List.all_eq_true] at hh
      have h1 := hh 0 ((downs_mem x 0).2 ⟨by omega, by omega⟩)
      have hx2 : (x : Int) / 2 ^ n = 0 := Int.ediv_eq_zero_of_lt (by omega) (by exact_mod_cast hx)
      rw [hx2] at h1
      simp at h1
    have := lk_ups hm (32 - n)
    rw [show n + (32 - n) = 32 by omega] at this
    rw [this, lk_from _ _ (Nat.le_refl n)]
/-- How many nodes the first m numbers want. -/
def total (n : Nat) : Nat → Nat
  | 0 => 0
  | m + 1 => total n m + wants n m
theorem total_mono (n : Nat) : ∀ (m d : Nat), total n m ≤ total n (m + d)
  | _, 0 => Nat.le_refl _
  | m, d + 1 => Nat.le_trans (total_mono n m d) (Nat.le_add_right _ _)
theorem total_is : total 0 1 = 33 ∧ total 1 2 = 34 ∧ total 4 16 = 59 ∧ total 5 32 = 90 := by decide
end Go.Proofs.Ytjhchppgecjhlaa
