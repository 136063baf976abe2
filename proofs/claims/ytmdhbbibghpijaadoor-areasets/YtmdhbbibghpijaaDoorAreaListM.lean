/- The spans of an area one by one: mathematics alone. -/
import Derived.Test.YtmdhbbibghpijaaDoorAreaArg
namespace Go.Proofs.YtmdhbbibghpijaaDoor
open Go.RowKit

theorem set_exists_le {w : World} {A : Option Addr} {n c : Nat} {zs : List Sp} (h : Arg w A n c zs) (hn : n ≤ 40000) : ∃ r, IsSet r (mem zs) ∧ r.length ≤ n := by
  obtain ⟨e, w', fr, hg, -⟩ := make_any A n c zs w h.prs h.nil (by omega) h.ok []
  obtain ⟨-, A', c', r, -, -, -, -, hl, hs⟩ := hg
  exact ⟨r, hs, hl⟩
theorem area_sets_le {w : World} {A : Option Addr} {n N : Nat} {f : Nat → Int → Bool} (h : Area w A n N f) (hN : N ≤ 40000) : ∃ R : Nat → List Sp, ∀ i, i < n → IsSet (R i) (fun k => f i k = true) ∧ (R i).length ≤ N := by
  have : ∀ i, ∃ r : List Sp, i < n → IsSet r (fun k => f i k = true) ∧ r.length ≤ N := by
    intro i
    by_cases hi : i < n
    · obtain ⟨b, off, a, l, c, -, -, -, ⟨zs, hz, hq⟩, hl⟩ := h.row i hi
      obtain ⟨r, hr, hle⟩ := set_exists_le hz (by omega)
      exact ⟨r, fun _ => ⟨hr.congr (fun k => by rw [← hasB_iff, hq k]), by omega⟩⟩
    · exact ⟨[], fun h => absurd h hi⟩
  exact ⟨fun i => (this i).choose, fun i => (this i).choose_spec⟩
theorem cellsL_length {R : Nat → List Sp} {N : Nat} : ∀ {n : Nat}, (∀ i, i < n → (R i).length ≤ N) → (cellsL R n).length ≤ n * N
  | 0, _ => by simp [cellsL]
  | n + 1, h => by
    rw [cellsL_succ, List.length_append, List.length_map, Nat.succ_mul]
    have := cellsL_length (R := R) (N := N) (n := n) (fun i hi => h i (by omega))
    have := h n (by omega)
    omega
theorem rt_two {r : List Sp} (h : Rt r) {s t : Sp} (hs : s ∈ r) (ht : t ∈ r) : s = t ∨ s.hi + 1 < t.lo ∨ t.hi + 1 < s.lo := by
  obtain ⟨i, hi, rfl⟩ := List.mem_iff_getElem.1 hs
  obtain ⟨j, hj, rfl⟩ := List.mem_iff_getElem.1 ht
  have hp := List.pairwise_iff_getElem.1 h.2
  rcases Nat.lt_trichotomy i j with hlt | heq | hgt
  · exact .inr (.inl (hp i j hi hj hlt))
  · subst heq; exact .inl rfl
  · exact .inr (.inr (hp j i hj hi hgt))
/-- What is so of a span of a set. -/
theorem span_of {r : List Sp} {f : Int → Bool} (h : IsSet r (fun k => f k = true)) {s : Sp} (hs : s ∈ r) : s.lo ≤ s.hi ∧ s.ok ∧ f s.lo = true ∧ f s.hi = true ∧ f (s.lo - 1) = false ∧ f (s.hi + 1) = false := by
  have h1 := h.rt.1 s hs
  have no : ∀ k, (k = s.lo - 1 ∨ k = s.hi + 1) → f k = false := by
    intro k hk
    cases hf : f k with
    | false => rfl
    | true =>
      obtain ⟨t, ht, t1, t2⟩ := (h.mem k).2 hf
      rcases rt_two h.rt hs ht with rfl | g | g
      · omega
      · omega
      · omega
  exact ⟨h1, h.ok s hs, (h.mem _).1 ⟨s, hs, Int.le_refl _, h1⟩, (h.mem _).1 ⟨s, hs, h1, Int.le_refl _⟩, no _ (.inl rfl), no _ (.inr rfl)⟩
theorem cellsL_rise (R : Nat → List Sp) : ∀ n, (cellsL R n).Pairwise (fun x y => x.1 ≤ y.1)
  | 0 => by simp [cellsL]
  | n + 1 => by
    rw [cellsL_succ, List.pairwise_append]
    refine ⟨cellsL_rise R n, ?_, ?_⟩
    · rw [List.pairwise_map]
      exact List.Pairwise.imp (fun _ => Int.le_refl _) (List.pairwise_of_forall (fun _ _ => trivial) : (R n).Pairwise (fun _ _ => True))
    · intro x hx y hy
      obtain ⟨i, hi, h1, _⟩ := mem_cellsL.1 hx
      obtain ⟨s, _, rfl⟩ := List.mem_map.1 hy
      dsimp only
      omega
/-- All keys of the spans that came. -/
def whF (pre : List (Int × Sp)) : Nat → Int → Bool := fun i k => pre.any fun x => decide (x.1 = (i : Int)) && (decide (x.2.lo ≤ k) && decide (k ≤ x.2.hi))
theorem whF_snoc (pre : List (Int × Sp)) (x : Int × Sp) (i : Nat) (k : Int) : whF (pre ++ [x]) i k = (whF pre i k || (decide (x.1 = (i : Int)) && (decide (x.2.lo ≤ k) && decide (k ≤ x.2.hi)))) := by
  unfold whF
  rw [List.any_append]
  simp
theorem whF_all {R : Nat → List Sp} {n : Nat} {f : Nat → Int → Bool} (hR : ∀ i, i < n → IsSet (R i) (fun k => f i k = true)) (ho : ∀ i, n ≤ i → ∀ k, f i k = false) (i : Nat) (k : Int) : whF (cellsL R n) i k = f i k := by
  have e : whF (cellsL R n) i k = true ↔ f i k = true := by
    unfold whF
    rw [List.any_eq_true]
    constructor
    · rintro ⟨x, hx, h1⟩
      obtain ⟨j, hj, h2, h3⟩ := mem_cellsL.1 hx
      simp at h1
      obtain rfl : j = i := by omega
      exact ((hR j hj).mem k).1 ⟨x.2, h3, h1.2.1, h1.2.2⟩
    · intro hf
      have hi : i < n := by
        by_cases hn : i < n
        · exact hn
        · rw [ho i (by omega) k] at hf; cases hf
      obtain ⟨s, hs, h1, h2⟩ := ((hR i hi).mem k).2 hf
      exact ⟨((i : Int), s), mem_cellsL.2 ⟨i, hi, rfl, hs⟩, by simp [h1, h2]⟩
  cases h1 : whF (cellsL R n) i k <;> cases h2 : f i k <;> simp_all
end Go.Proofs.YtmdhbbibghpijaaDoor
