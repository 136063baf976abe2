/- ivl.Make, setOf. -/
import Derived.Test.YtmdhbbibghpijaaDoorIvlSort
namespace Go.Proofs.YtmdhbbibghpijaaDoor
open Go.RowKit

/-- Two spans that are not apart, as one. -/
def mrg (t x : Sp) : Sp := ⟨t.lo, max t.hi x.hi⟩
theorem rt_mrg {q : List Sp} {t x : Sp} (h : Rt (q ++ [t])) : Rt (q ++ [mrg t x]) := by
  obtain ⟨h1, h2⟩ := h
  rw [List.pairwise_append] at h2
  have ht := h1 t (by simp)
  refine ⟨fun s hs => ?_, ?_⟩
  · rcases List.mem_append.1 hs with hs | hs
    · exact h1 s (by simp [hs])
    · obtain rfl : s = mrg t x := by simpa using hs
      show t.lo ≤ max t.hi x.hi
      omega
  · rw [List.pairwise_append]
    refine ⟨h2.1, List.pairwise_singleton _ _, fun a ha b hb => ?_⟩
    obtain rfl : b = mrg t x := by simpa using hb
    exact h2.2.2 a ha t (by simp)
theorem mem_mrg {q : List Sp} {t x : Sp} (hle : t.lo ≤ x.lo) (hap : apt t x = false) (k : Int) : mem (q ++ [mrg t x]) k ↔ mem (q ++ [t]) k ∨ inS x k := by
  have hap' : ¬ t.hi + 1 < x.lo := by unfold apt at hap; simpa using hap
  rw [mem_append, mem_append, mem_cons, mem_cons]
  simp only [mem_nil, or_false]
  unfold inS mrg
  simp only
  constructor
  · rintro (h | ⟨h1, h2⟩)
    · exact .inl (.inl h)
    · by_cases h3 : k ≤ t.hi
      · exact .inl (.inr ⟨h1, h3⟩)
      · exact .inr ⟨by omega, by omega⟩
  · rintro ((h | ⟨h1, h2⟩) | ⟨h1, h2⟩)
    · exact .inl h
    · exact .inr ⟨h1, by omega⟩
    · exact .inr ⟨by omega, by omega⟩
theorem mrg_ok {t x : Sp} (ht : t.ok) (hx : x.ok) : (mrg t x).ok := by
  obtain ⟨⟨a1, a2⟩, a3, a4⟩ := ht
  obtain ⟨⟨b1, b2⟩, b3, b4⟩ := hx
  exact ⟨⟨a1, a2⟩, by show 0 ≤ max t.hi x.hi; omega, by show max t.hi x.hi ≤ 4294967295; omega⟩

/-- How far Make has come: r is the set of the first j. -/
structure Mk (zs : List Sp) (j : Nat) (r : List Sp) : Prop where
  rt : Rt r
  ok : ∀ s ∈ r, s.ok
  num : r.length ≤ j
  mem : ∀ k, mem r k ↔ mem (zs.take j) k
  ahead : ∀ x ∈ zs.drop j, ∀ s ∈ r, s.lo ≤ x.lo
theorem take_snoc {zs : List Sp} {j : Nat} {x : Sp} (h : zs[j]? = some x) : zs.take (j + 1) = zs.take j ++ [x] ∧ zs.drop j = x :: zs.drop (j + 1) := by
  have hj := (List.getElem?_eq_some_iff.1 h).1
  have e := (List.getElem?_eq_some_iff.1 h).2
  refine ⟨by rw [List.take_succ_eq_append_getElem hj, e], by rw [List.drop_eq_getElem_cons hj, e]⟩
theorem Mk.ahead_next {zs : List Sp} {j : Nat} {x : Sp} (hs : zs.Pairwise (fun a b => a.lo ≤ b.lo)) (h : zs[j]? = some x) : ∀ y ∈ zs.drop (j + 1), x.lo ≤ y.lo := by
  have hp : (zs.drop j).Pairwise (fun a b : Sp => a.lo ≤ b.lo) := hs.sublist (List.drop_sublist j zs)
  rw [(take_snoc h).2] at hp
  exact (List.pairwise_cons.1 hp).1
theorem Mk.append {zs : List Sp} {j : Nat} {r : List Sp} {x : Sp} (h : Mk zs j r) (hs : zs.Pairwise (fun a b => a.lo ≤ b.lo)) (hx : zs[j]? = some x) (hxo : x.ok) (hxe : x.lo ≤ x.hi) (hb : ∀ s ∈ r, s.hi + 1 < x.lo) : Mk zs (j + 1) (r ++ [x]) := by
  obtain ⟨e1, e2⟩ := take_snoc hx
  refine ⟨rt_snoc h.rt hxe hb, fun s hs' => ?_, by simp; exact h.num, fun k => ?_, fun y hy s hs' => ?_⟩
  · rcases List.mem_append.1 hs' with h1 | h1
    · exact h.ok s h1
    · obtain rfl : s = x := by simpa using h1
      exact hxo
  · rw [e1, mem_append, mem_append, h.mem k]
  · rcases List.mem_append.1 hs' with h1 | h1
    · exact h.ahead y (by rw [e2]; simp [hy]) s h1
    · obtain rfl : s = x := by simpa using h1
      exact Mk.ahead_next hs hx y hy
theorem Mk.merge {zs : List Sp} {j : Nat} {q : List Sp} {t x : Sp} (h : Mk zs j (q ++ [t])) (hs : zs.Pairwise (fun a b => a.lo ≤ b.lo)) (hx : zs[j]? = some x) (hxo : x.ok) (hap : apt t x = false) : Mk zs (j + 1) (q ++ [mrg t x]) := by
  obtain ⟨e1, e2⟩ := take_snoc hx
  have htx : t.lo ≤ x.lo := h.ahead x (by rw [e2]; simp) t (by simp)
  refine ⟨rt_mrg h.rt, fun s hs' => ?_, by have := h.num; simp at *; omega, fun k => ?_, fun y hy s hs' => ?_⟩
  · rcases List.mem_append.1 hs' with h1 | h1
    · exact h.ok s (by simp [h1])
    · obtain rfl : s = mrg t x := by simpa using h1
      exact mrg_ok (h.ok t (by simp)) hxo
  · rw [e1, mem_mrg htx hap, h.mem k, mem_append, mem_cons]
    simp [mem_nil]
  · rcases List.mem_append.1 hs' with h1 | h1
    · exact h.ahead y (by rw [e2]; simp [hy]) s (by simp [h1])
    · obtain rfl : s = mrg t x := by simpa using h1
      have := Mk.ahead_next hs hx y hy
      show t.lo ≤ y.lo
      omega

/-- The last one of a row of one's own is set. -/
theorem own_last {w : World} {base : Nat} {A : Option Addr} {c : Nat} {q : List Sp} {t : Sp} (h : Own w base A (q.length + 1) c (q ++ [t])) (hi : Int) :
    ∃ g, A = some ⟨g, 0, none⟩ ∧ base ≤ g ∧ g < w.heap.size ∧ w.cell? ⟨g, q.length * 2 + 1, none⟩ = some (.int .u32 t.hi) ∧ w.cell? ⟨g, q.length * 2, none⟩ = some (.int .u32 t.lo) ∧ w.frozen? ⟨g, q.length * 2 + 1, none⟩ = false ∧
      Own (w.setCell ⟨g, q.length * 2 + 1, none⟩ (.int .u32 hi)) base A (q.length + 1) c (q ++ [⟨t.lo, hi⟩]) := by
  rcases h.2 with ⟨_, h0⟩ | ⟨g, cap, cur, e, hb, hblk, h1, h2, h3, h4⟩
  · omega
  · cases e
    have hg := (Array.getElem?_eq_some_iff.1 hblk).1
    have h4' : cur.toList.take ((q.length + 1) * 2) = spc (q ++ [t]) := h4
    have hz : (q ++ [t])[q.length]? = some t := by simp
    obtain ⟨p0, p1⟩ := prc_get (f := fun s : Sp => Value.int .u32 s.lo) (g := fun s : Sp => Value.int .u32 s.hi) (q ++ [t]) q.length t hz
    have e0 : (spc (q ++ [t]))[q.length * 2]? = cur[q.length * 2]? := by rw [← h4', List.getElem?_take, if_pos (by omega), Array.getElem?_toList]
    have e1 : (spc (q ++ [t]))[q.length * 2 + 1]? = cur[q.length * 2 + 1]? := by rw [← h4', List.getElem?_take, if_pos (by omega), Array.getElem?_toList]
    have p0' : cur[q.length * 2]? = some (.int .u32 t.lo) := e0 ▸ p0
    have p1' : cur[q.length * 2 + 1]? = some (.int .u32 t.hi) := e1 ▸ p1
    have hlt : q.length * 2 + 1 < cur.size := (Array.getElem?_eq_some_iff.1 p1').1
    refine ⟨g, rfl, hb, hg, by simp [World.cell?, hblk, p1'], by simp [World.cell?, hblk, p0'], by simp [World.frozen?, hblk], ?_⟩
    have hl : (q ++ [(⟨t.lo, hi⟩ : Sp)]).length = q.length + 1 := by simp
    have hown := own_of_cells (zs := q ++ [(⟨t.lo, hi⟩ : Sp)]) (setCell_block hblk (q.length * 2 + 1) (.int .u32 hi)) (by simpa using h3) (by rw [hl]; exact h1) h2 (fun k z hk => by
      rcases Nat.lt_or_ge k q.length with hkq | hkq
      · rw [List.getElem?_append_left hkq] at hk
        have hz2 : (q ++ [t])[k]? = some z := by rw [List.getElem?_append_left hkq]; exact hk
        obtain ⟨r0, r1⟩ := prc_get (f := fun s : Sp => Value.int .u32 s.lo) (g := fun s : Sp => Value.int .u32 s.hi) (q ++ [t]) k z hz2
        have f0 : (spc (q ++ [t]))[k * 2]? = cur[k * 2]? := by rw [← h4', List.getElem?_take, if_pos (by omega), Array.getElem?_toList]
        have f1 : (spc (q ++ [t]))[k * 2 + 1]? = cur[k * 2 + 1]? := by rw [← h4', List.getElem?_take, if_pos (by omega), Array.getElem?_toList]
        rw [Array.getElem?_setIfInBounds_ne (by omega), Array.getElem?_setIfInBounds_ne (by omega)]
        exact ⟨f0 ▸ r0, f1 ▸ r1⟩
      · rw [List.getElem?_append_right hkq] at hk
        have hk0 : k - q.length = 0 := by
          have := (List.getElem?_eq_some_iff.1 hk).1
          simp at this
          omega
        rw [hk0] at hk
        simp at hk
        subst hk
        obtain rfl : k = q.length := by omega
        refine ⟨by rw [Array.getElem?_setIfInBounds_ne (by omega)]; exact p0', by simp [hlt]⟩)
    rw [hl] at hown
    exact ownsRow_le hown hb

/-- What Make does with spans that are sorted: the rounds. -/
theorem snoc_cases (r : List Sp) : r = [] ∨ ∃ q t, r = q ++ [t] := by
  rcases List.eq_nil_or_concat r with h | ⟨q, t, h⟩
  · exact .inl h
  · exact .inr ⟨q, t, by rw [h, List.concat_eq_append]⟩
end Go.Proofs.YtmdhbbibghpijaaDoor
