/- SegtreeNodes: the keys, and what is told of them. Plain mathematics. -/
import Derived.Test.YtjhchppgecjhlaaSegNodesM
import Derived.Test.YtjhchppgecjhlaaSegApi
namespace Go.Proofs.Ytjhchppgecjhlaa
open Go.RowKit

/-- m keys from fr on, each with the value 1. -/
def kvn (fr : Int) (m : Nat) : List (Int × Int) := (List.range m).map (fun (k : Nat) => (fr + (k : Int), (1 : Int)))
theorem kvn_length (fr : Int) (m : Nat) : (kvn fr m).length = m := by simp [kvn]
theorem kvn_mem {fr : Int} {m : Nat} {p : Int × Int} (h : p ∈ kvn fr m) : fr ≤ p.1 ∧ p.1 < fr + m ∧ p.2 = 1 := by
  obtain ⟨k, hk, rfl⟩ := List.mem_map.1 h
  have := List.mem_range.1 hk
  exact ⟨by dsimp only; omega, by dsimp only; omega, rfl⟩
theorem kvn_put (fr : Int) (m : Nat) : insK (fr + m) 1 (kvn fr m) = kvn fr (m + 1) := by
  have h1 : (kvn fr m).filter (fun p => decide (p.1 < fr + m)) = kvn fr m := by
    apply List.filter_eq_self.2
    intro p hp
    have := kvn_mem hp
    simp
    omega
  have h2 : (kvn fr m).filter (fun p => decide (fr + m < p.1)) = [] := by
    apply List.filter_eq_nil_iff.2
    intro p hp
    have := kvn_mem hp
    simp
    omega
  unfold insK
  rw [h1, h2]
  simp [kvn, List.range_succ]
theorem kvn_again (fr : Int) (m : Nat) : (insK fr 5 (kvn fr (m + 1))).length = m + 1 := by
  have e : kvn fr (m + 1) = (fr, 1) :: (List.range m).map (fun (k : Nat) => (fr + ((k : Int) + 1), (1 : Int))) := by
    unfold kvn
    rw [List.range_succ_eq_map]
    simp
  have h1 : (kvn fr (m + 1)).filter (fun p => decide (p.1 < fr)) = [] := by
    apply List.filter_eq_nil_iff.2
    intro p hp
    have := kvn_mem hp
    simp
    omega
  have h2 : ((List.range m).map (fun (k : Nat) => (fr + ((k : Int) + 1), (1 : Int)))).filter (fun p => decide (fr < p.1)) = (List.range m).map (fun (k : Nat) => (fr + ((k : Int) + 1), (1 : Int))) := by
    apply List.filter_eq_self.2
    intro p hp
    obtain ⟨k, _, rfl⟩ := List.mem_map.1 hp
    simp
    omega
  unfold insK
  rw [h1, e, List.filter_cons]
  simp [h2]
theorem filter_whole {kvs : List (Int × Int)} (h : ∀ p ∈ kvs, 0 ≤ p.1 ∧ p.1 < 4294967296 ∧ inI p.2) : kvs.filter (inS 0 4294967295) = kvs := by
  apply List.filter_eq_self.2
  intro p hp
  have := h p hp
  simp [inS]
  omega
theorem cnt_of {kvs : List (Int × Int)} (h : ∀ p ∈ kvs, 0 ≤ p.1 ∧ p.1 < 4294967296 ∧ inI p.2) (hl : kvs.length ≤ 1000000) : (ofL (vs kvs)).c = kvs.length := by
  have := (isOf (vs kvs) (by rw [vs_length]; exact hl) (fun x hx => by
    obtain ⟨p, hp, rfl⟩ := List.mem_map.1 hx
    exact (h p hp).2.2)).c
  rw [this, vs_length]
theorem vs_kvn (fr : Int) (m : Nat) : vs (kvn fr m) = List.replicate m 1 := by
  unfold vs kvn
  rw [List.map_map]
  apply List.ext_getElem
  · simp
  · intro i h1 h2
    simp
theorem sum_kvn : (ofL (List.replicate 1 1)).s = 1 ∧ (ofL (List.replicate 2 1)).s = 2 ∧ (ofL (List.replicate 16 1)).s = 16 ∧ (ofL (List.replicate 32 1)).s = 32 := ⟨by kernel_rfl, by kernel_rfl, by kernel_rfl, by kernel_rfl⟩
theorem lk_far {K : List Int} {f fr : Int} (hK : ∀ k ∈ K, k / 2 ^ 31 = fr / 2 ^ 31) (h0 : 0 ≤ f) (h1 : f < 4294967296) (hf : f / 2 ^ 31 ≠ fr / 2 ^ 31) (hfr : 0 ≤ fr ∧ fr < 4294967296) (hne : fr ∈ K) : lk K f 32 = 32 := by
  have hm : miss K f 31 = true := by
    unfold miss
    rw [List.all_eq_true]
    intro k hk
    rw [hK k hk]
    simp only [decide_eq_true_eq]
    exact fun e => hf e.symm
  have hm2 : ¬ miss K f 32 = true := by
    unfold miss
    rw [List.all_eq_true]
    intro hh
    have := hh fr hne
    simp only [decide_eq_true_eq] at this
    apply this
    rw [Int.ediv_eq_zero_of_lt hfr.1 (by simpa using hfr.2), Int.ediv_eq_zero_of_lt h0 (by simpa using h1)]
  rw [show (32 : Nat) = 31 + 1 from rfl, lk_up hm2, lk_all hm]
end Go.Proofs.Ytjhchppgecjhlaa
