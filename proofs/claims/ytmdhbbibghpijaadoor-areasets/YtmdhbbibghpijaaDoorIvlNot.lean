/- ivl.Not: the gaps, as numbers. -/
import Derived.Test.YtmdhbbibghpijaaDoorIvlSet
namespace Go.Proofs.YtmdhbbibghpijaaDoor
open Go.RowKit

theorem SpAt.grown {w w' : World} {b : Nat} {s : Sp} {row : Option Nat} (h : SpAt w b s) (hg : w.grownBy w' row) (hne : row = some b → False) : SpAt w' b s := (hg.block b (Array.getElem?_eq_some_iff.1 h).1 (fun e => hne e.symm)).trans h
/-- A key. -/
def isKey (k : Int) : Prop := 0 ≤ k ∧ k ≤ 4294967295
/-- How far Not has come: gs is the gaps ahead of f, behind which the first j of r end. -/
structure Ng (r : List Sp) (j : Nat) (gs : List Sp) (f : Int) : Prop where
  rt : Rt gs
  ok : ∀ s ∈ gs, s.ok
  num : gs.length ≤ j
  bd : 0 ≤ f ∧ f ≤ 4294967295
  keys : ∀ k, mem gs k ↔ (0 ≤ k ∧ k < f ∧ ¬ mem (r.take j) k)
  low : ∀ s ∈ gs, s.hi + 1 < f
  done : ∀ k, mem (r.take j) k → k < f
  next : ∀ x ∈ r.drop j, f ≤ x.lo
theorem Ng.start (r : List Sp) (hok : ∀ s ∈ r, s.ok) : Ng r 0 [] 0 :=
  ⟨Rt.nil, by simp, Nat.le_refl _, by omega, fun k => ⟨fun h => absurd h (mem_nil k), fun ⟨h1, h2, _⟩ => by omega⟩, by simp, fun k h => by simp [mem_nil] at h, fun x hx => (hok x (by simpa using hx)).1.1⟩
theorem Ng.gap {r : List Sp} {j : Nat} {gs : List Sp} {f : Int} {x : Sp} (h : Ng r j gs f) (hxok : x.ok) (hlt : f < x.lo) : Rt (gs ++ [⟨f, x.lo - 1⟩]) ∧ (∀ s ∈ gs ++ [(⟨f, x.lo - 1⟩ : Sp)], s.ok) ∧ ∀ k, mem (gs ++ [(⟨f, x.lo - 1⟩ : Sp)]) k ↔ (0 ≤ k ∧ k < x.lo ∧ ¬ mem (r.take j) k) := by
  obtain ⟨⟨o1, o2⟩, o3, o4⟩ := hxok
  have hb := h.bd
  refine ⟨rt_snoc h.rt (by show f ≤ x.lo - 1; omega) (fun s hs => h.low s hs), fun s hs => ?_, fun k => ?_⟩
  · rcases List.mem_append.1 hs with h1 | h1
    · exact h.ok s h1
    · obtain rfl : s = ⟨f, x.lo - 1⟩ := by simpa using h1
      exact ⟨⟨by show 0 ≤ f; omega, by show f ≤ _; omega⟩, by show 0 ≤ x.lo - 1; omega, by show x.lo - 1 ≤ _; omega⟩
  · rw [mem_append, h.keys k, mem_cons]
    simp only [mem_nil, or_false]
    unfold inS
    constructor
    · rintro (⟨h1, h2, h3⟩ | ⟨h1, h2⟩)
      · exact ⟨h1, by omega, h3⟩
      · simp only at h1 h2
        exact ⟨by omega, by omega, fun hm => by have := h.done k hm; omega⟩
    · rintro ⟨h1, h2, h3⟩
      by_cases hk : k < f
      · exact .inl ⟨h1, hk, h3⟩
      · exact .inr ⟨by simp only; omega, by simp only; omega⟩
/-- A round. -/
theorem Ng.step {r : List Sp} {j : Nat} {gs gs' : List Sp} {f : Int} {x : Sp} (h : Ng r j gs f) (hr : Rt r) (hx : r[j]? = some x) (hxok : x.ok) (hxe : x.lo ≤ x.hi) (hh : x.hi < 4294967295)
    (hrt : Rt gs') (hok : ∀ s ∈ gs', s.ok) (hnum : gs'.length ≤ j + 1) (hm : ∀ k, mem gs' k ↔ (0 ≤ k ∧ k < x.lo ∧ ¬ mem (r.take j) k)) (hlow : ∀ s ∈ gs', s.hi + 1 ≤ x.lo) : Ng r (j + 1) gs' (x.hi + 1) := by
  obtain ⟨e1, e2⟩ := take_snoc hx
  have hfx : f ≤ x.lo := h.next x (by rw [e2]; simp)
  have hb := h.bd
  obtain ⟨⟨o1, o2⟩, o3, o4⟩ := hxok
  refine ⟨hrt, hok, hnum, by omega, fun k => ?_, fun s hs => by have := hlow s hs; omega, fun k hk => ?_, fun y hy => ?_⟩
  · rw [hm k, e1, mem_append, mem_cons]
    simp only [mem_nil, or_false]
    unfold inS
    constructor
    · rintro ⟨h1, h2, h3⟩
      exact ⟨h1, by omega, fun h4 => by rcases h4 with h4 | h4
                                        · exact h3 h4
                                        · omega⟩
    · rintro ⟨h1, h2, h3⟩
      refine ⟨h1, ?_, fun h4 => h3 (.inl h4)⟩
      apply Int.lt_of_not_ge
      intro h5
      exact h3 (.inr ⟨h5, by omega⟩)
  · rw [e1, mem_append, mem_cons] at hk
    simp only [mem_nil, or_false] at hk
    rcases hk with hk | ⟨hk1, hk2⟩
    · have := h.done k hk; omega
    · omega
  · have hp : (r.drop j).Pairwise (fun a b : Sp => a.hi + 1 < b.lo) := hr.2.sublist (List.drop_sublist j r)
    rw [e2] at hp
    have := (List.pairwise_cons.1 hp).1 y hy
    omega

end Go.Proofs.YtmdhbbibghpijaaDoor
