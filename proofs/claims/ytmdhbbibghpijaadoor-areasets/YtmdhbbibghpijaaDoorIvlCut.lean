/- Cuts, and sets that are grown from one cut up to the next one: mathematics alone. -/
import Derived.Test.YtmdhbbibghpijaaDoorIvlPut
namespace Go.Proofs.YtmdhbbibghpijaaDoor
open Go.RowKit

/-- Each span's begin, and where it has ended, are among the numbers. -/
def CutOf (zs : List Sp) (ns : List Int) : Prop := ∀ s ∈ zs, s.lo ≤ s.hi → s.lo ∈ ns ∧ s.hi + 1 ∈ ns
theorem CutOf.mono {zs : List Sp} {ns ms : List Int} (h : CutOf zs ns) (hs : ∀ z ∈ ns, z ∈ ms) : CutOf zs ms := fun s hz he => ⟨hs _ (h s hz he).1, hs _ (h s hz he).2⟩
theorem hasB_flat {zs : List Sp} {ns : List Int} (h : CutOf zs ns) {x y k : Int} (hno : ∀ z ∈ ns, ¬ (x < z ∧ z < y)) (hx : x ≤ k) (hy : k < y) : hasB zs k = hasB zs x := by
  have e : mem zs k ↔ mem zs x := by
    constructor
    · rintro ⟨s, hs, h1, h2⟩
      have h3 := hno _ (h s hs (by omega)).1
      exact ⟨s, hs, by omega, by omega⟩
    · rintro ⟨s, hs, h1, h2⟩
      have h3 := hno _ (h s hs (by omega)).2
      exact ⟨s, hs, by omega, by omega⟩
  have e1 := hasB_iff (zs := zs) (k := k)
  have e2 := hasB_iff (zs := zs) (k := x)
  cases h1 : hasB zs k <;> cases h2 : hasB zs x <;> simp_all
theorem up_lt {ns : List Int} (h : Up ns) {i j : Nat} {x y : Int} (hx : ns[i]? = some x) (hy : ns[j]? = some y) (hij : i < j) : x < y := by
  obtain ⟨hi, rfl⟩ := List.getElem?_eq_some_iff.1 hx
  obtain ⟨hj, rfl⟩ := List.getElem?_eq_some_iff.1 hy
  exact List.pairwise_iff_getElem.1 h i j hi hj hij
theorem up_between {ns : List Int} (h : Up ns) {i : Nat} {x y : Int} (hx : ns[i]? = some x) (hy : ns[i + 1]? = some y) : ∀ z ∈ ns, ¬ (x < z ∧ z < y) := by
  rintro z hz ⟨h1, h2⟩
  obtain ⟨j, hj⟩ := List.getElem?_of_mem hz
  rcases Nat.lt_trichotomy j i with hlt | heq | hgt
  · have := up_lt h hj hx hlt; omega
  · subst heq; rw [hx] at hj; cases hj; omega
  · rcases (show j = i + 1 ∨ i + 1 < j by omega) with e | hgt2
    · subst e; rw [hy] at hj; cases hj; omega
    · have := up_lt h hy hj hgt2; omega
/-- With the keys from x to y - 1. -/
def grw (p : Int → Prop) (x y : Int) : Int → Prop := fun k => p k ∨ (x ≤ k ∧ k < y)
theorem grow_new {r : List Sp} {p : Int → Prop} {x y : Int} (h : IsSet r p) (hp : ∀ k, p k → k < x) (hxy : x < y) (hx : 0 ≤ x) (hy : y ≤ 4294967296) (hl : ∀ q t, r = q ++ [t] → t.hi + 1 ≠ x) : IsSet (r ++ [⟨x, y - 1⟩]) (grw p x y) := by
  have hb : ∀ s ∈ r, s.hi + 1 < x := by
    intro s hs
    rcases snoc_cases r with rfl | ⟨q, t, rfl⟩
    · cases hs
    · have h1 := rt_last h.rt s hs
      have h2 := h.rt.1 t (by simp)
      have h3 := hp t.hi ((h.mem t.hi).1 ⟨t, by simp, h2, Int.le_refl _⟩)
      have h4 := hl q t rfl
      omega
  refine ⟨rt_snoc h.rt (by dsimp only; omega) hb, fun k => ?_, fun s hs => ?_⟩
  · rw [mem_append, h.mem k, mem_cons]
    unfold grw inS
    constructor
    · rintro (g | g | g)
      · exact .inl g
      · exact .inr ⟨g.1, by have := g.2; dsimp only at this; omega⟩
      · exact absurd g (mem_nil k)
    · rintro (g | g)
      · exact .inl g
      · exact .inr (.inl ⟨g.1, by dsimp only; omega⟩)
  · rcases List.mem_append.1 hs with g | g
    · exact h.ok s g
    · simp at g
      subst g
      exact ⟨⟨by dsimp only; omega, by dsimp only; omega⟩, by dsimp only; omega, by dsimp only; omega⟩
theorem grow_last {q : List Sp} {t : Sp} {p : Int → Prop} {x y : Int} (h : IsSet (q ++ [t]) p) (hxy : x < y) (hy : y ≤ 4294967296) (hl : t.hi + 1 = x) : IsSet (q ++ [⟨t.lo, y - 1⟩]) (grw p x y) := by
  have ht := h.rt.1 t (by simp)
  have hpw := List.pairwise_append.1 h.rt.2
  refine ⟨rt_snoc ⟨fun s hs => h.rt.1 s (by simp [hs]), hpw.1⟩ (by dsimp only; omega) (fun s hs => hpw.2.2 s hs t (by simp)), fun k => ?_, fun s hs => ?_⟩
  · have hm := h.mem k
    rw [mem_append, mem_cons] at hm
    rw [mem_append, mem_cons]
    unfold grw inS
    unfold inS at hm
    rw [← hm]
    constructor
    · rintro (g | g | g)
      · exact .inl (.inl g)
      · by_cases hk : k ≤ t.hi
        · exact .inl (.inr (.inl ⟨g.1, hk⟩))
        · exact .inr ⟨by omega, by have := g.2; dsimp only at this; omega⟩
      · exact absurd g (mem_nil k)
    · rintro ((g | g | g) | g)
      · exact .inl g
      · exact .inr (.inl ⟨g.1, by dsimp only; omega⟩)
      · exact absurd g (mem_nil k)
      · exact .inr (.inl ⟨by dsimp only; omega, by dsimp only; omega⟩)
  · rcases List.mem_append.1 hs with g | g
    · exact h.ok s (by simp [g])
    · simp at g
      subst g
      obtain ⟨⟨o1, o2⟩, o3, o4⟩ := h.ok t (by simp)
      exact ⟨⟨o1, o2⟩, by dsimp only; omega, by dsimp only; omega⟩
/-- What is asked: 0 in one or both, 1 in both, 2 in the first alone, 3 not in the first. -/
def asked (kind : Int) (x y : Bool) : Bool := (decide (kind = 0) && (x || y)) || (decide (kind = 1) && x && y) || (decide (kind = 2) && x && !y) || (decide (kind = 3) && !x)
/-- The keys of which it is so. -/
def askB (kind : Int) (za zb : List Sp) (k : Int) : Bool := keyB k && asked kind (hasB za k) (hasB zb k)
/-- Between two cuts: what is told of the keys up to the i-th one. -/
def uptoK (p : Int → Bool) (x : Int) : Int → Prop := fun k => p k = true ∧ k < x
theorem uptoK_yes {kind : Int} {za zb : List Sp} {ns : List Int} (ha : CutOf za ns) (hb : CutOf zb ns) {x y : Int} (hno : ∀ z ∈ ns, ¬ (x < z ∧ z < y)) (hxy : x < y) (hx : 0 ≤ x) (hy : y ≤ 4294967296) (h : asked kind (hasB za x) (hasB zb x) = true) (k : Int) :
    grw (uptoK (askB kind za zb) x) x y k ↔ uptoK (askB kind za zb) y k := by
  unfold grw uptoK
  constructor
  · rintro (⟨g1, g2⟩ | ⟨g1, g2⟩)
    · exact ⟨g1, by omega⟩
    · refine ⟨?_, g2⟩
      unfold askB
      rw [hasB_flat ha hno g1 g2, hasB_flat hb hno g1 g2, h]
      unfold keyB
      simp
      omega
  · rintro ⟨g1, g2⟩
    by_cases hk : k < x
    · exact .inl ⟨g1, hk⟩
    · exact .inr ⟨by omega, g2⟩
theorem uptoK_no {kind : Int} {za zb : List Sp} {ns : List Int} (ha : CutOf za ns) (hb : CutOf zb ns) {x y : Int} (hno : ∀ z ∈ ns, ¬ (x < z ∧ z < y)) (hxy : x < y) (h : asked kind (hasB za x) (hasB zb x) = false) (k : Int) :
    uptoK (askB kind za zb) x k ↔ uptoK (askB kind za zb) y k := by
  unfold uptoK
  constructor
  · rintro ⟨g1, g2⟩
    exact ⟨g1, by omega⟩
  · rintro ⟨g1, g2⟩
    refine ⟨g1, Classical.byContradiction fun hk => ?_⟩
    unfold askB at g1
    rw [hasB_flat ha hno (by omega) g2, hasB_flat hb hno (by omega) g2, h] at g1
    simp at g1
end Go.Proofs.YtmdhbbibghpijaaDoor
