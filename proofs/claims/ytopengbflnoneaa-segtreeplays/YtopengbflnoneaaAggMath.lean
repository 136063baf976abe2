/- What is told of values, as numbers. Nothing of the program. -/
import Derived.Test.YtopengbflnoneaaMem
namespace Go.Proofs.Ytopengbflnoneaa
open Go.RowKit

/-- What is told of values. -/
structure Ag where
  c : Int
  s : Int
  mn : Int
  mx : Int
def inI (z : Int) : Prop := -9223372036854775808 ≤ z ∧ z ≤ 9223372036854775807
structure Ag.ok (a : Ag) : Prop where
  c : inI a.c
  s : inI a.s
  mn : inI a.mn
  mx : inI a.mx
theorem wr_ok (z : Int) : inI (wrap64 z) := by
  unfold wrap64 inI
  omega
theorem wr_id {z : Int} (h : inI z) : wrap64 z = z := by
  unfold wrap64 inI at *
  omega
theorem wr_add (x y : Int) : wrap64 (wrap64 x + y) = wrap64 (x + y) := by
  unfold wrap64
  omega
theorem wr_add2 (x y : Int) : wrap64 (x + wrap64 y) = wrap64 (x + y) := by
  unfold wrap64
  omega
def nil0 : Ag := ⟨0, 0, 0, 0⟩
def one1 (v : Int) : Ag := ⟨1, v, v, v⟩
def both (a b : Ag) : Ag := ⟨wrap64 (a.c + b.c), wrap64 (a.s + b.s), min a.mn b.mn, max a.mx b.mx⟩
/-- That of two together. -/
def mrg (a b : Ag) : Ag := if b.c < 1 then (if a.c < 1 then nil0 else a) else if a.c < 1 then b else both a b
theorem mrg_oo {a b : Ag} (ha : a.c < 1) (hb : b.c < 1) : mrg a b = nil0 := by unfold mrg; rw [if_pos hb, if_pos ha]
theorem mrg_xo {a b : Ag} (ha : ¬ a.c < 1) (hb : b.c < 1) : mrg a b = a := by unfold mrg; rw [if_pos hb, if_neg ha]
theorem mrg_ox {a b : Ag} (ha : a.c < 1) (hb : ¬ b.c < 1) : mrg a b = b := by unfold mrg; rw [if_neg hb, if_pos ha]
theorem mrg_xx {a b : Ag} (ha : ¬ a.c < 1) (hb : ¬ b.c < 1) : mrg a b = both a b := by unfold mrg; rw [if_neg hb, if_neg ha]
theorem inI0 : inI 0 := ⟨by decide, by decide⟩
theorem inI1 : inI 1 := ⟨by decide, by decide⟩
theorem nil0_ok : nil0.ok := ⟨inI0, inI0, inI0, inI0⟩
theorem one1_ok {v : Int} (h : inI v) : (one1 v).ok := ⟨inI1, h, h, h⟩
theorem mrg_ok {a b : Ag} (ha : a.ok) (hb : b.ok) : (mrg a b).ok := by
  unfold mrg
  split
  · split
    · exact nil0_ok
    · exact ha
  · split
    · exact hb
    · obtain ⟨_, _, a3, a4⟩ := ha
      obtain ⟨_, _, b3, b4⟩ := hb
      unfold inI at a3 a4 b3 b4
      exact ⟨wr_ok _, wr_ok _, by unfold inI both; dsimp only; omega, by unfold inI both; dsimp only; omega⟩

def sm : List Int → Int
  | [] => 0
  | z :: zs => z + sm zs
theorem sm_append (xs ys : List Int) : sm (xs ++ ys) = sm xs + sm ys := by
  induction xs with
  | nil => simp [sm]
  | cons x xs ih => simp [sm, ih]; omega
theorem sm_reverse (xs : List Int) : sm xs.reverse = sm xs := by
  induction xs with
  | nil => rfl
  | cons x xs ih => simp [sm, sm_append, ih]; omega
/-- What is told of all values. -/
def ofL (zs : List Int) : Ag := zs.foldl (fun a v => mrg a (one1 v)) nil0
theorem ofL_snoc (zs : List Int) (v : Int) : ofL (zs ++ [v]) = mrg (ofL zs) (one1 v) := by simp [ofL]
/-- It is what is told of zs. -/
structure IsOf (zs : List Int) (a : Ag) : Prop where
  c : a.c = zs.length
  s : a.s = wrap64 (sm zs)
  none : zs = [] → a = nil0
  mn : zs ≠ [] → a.mn ∈ zs
  lo : ∀ z ∈ zs, a.mn ≤ z
  mx : zs ≠ [] → a.mx ∈ zs
  hi : ∀ z ∈ zs, z ≤ a.mx
theorem IsOf.nil : IsOf [] nil0 := ⟨rfl, (wr_id (z := 0) inI0).symm, fun _ => rfl, fun h => (h rfl).elim, by simp, fun h => (h rfl).elim, by simp⟩
theorem IsOf.one {v : Int} (h : inI v) : IsOf [v] (one1 v) :=
  ⟨rfl, by simp [sm, one1, wr_id h], (fun h => by simp at h), (fun _ => by simp [one1]), (by simp [one1]), (fun _ => by simp [one1]), (by simp [one1])⟩
theorem IsOf.unique {zs : List Int} {a b : Ag} (ha : IsOf zs a) (hb : IsOf zs b) : a = b := by
  by_cases h : zs = []
  · rw [ha.none h, hb.none h]
  · have h1 := hb.lo _ (ha.mn h)
    have h2 := ha.lo _ (hb.mn h)
    have h3 := hb.hi _ (ha.mx h)
    have h4 := ha.hi _ (hb.mx h)
    have h5 := ha.c.trans hb.c.symm
    have h6 := ha.s.trans hb.s.symm
    obtain ⟨c, s, mn, mx⟩ := a
    obtain ⟨c', s', mn', mx'⟩ := b
    dsimp only at *
    obtain rfl : c = c' := h5
    obtain rfl : s = s' := h6
    obtain rfl : mn = mn' := by omega
    obtain rfl : mx = mx' := by omega
    rfl
theorem IsOf.like {xs ys : List Int} {a : Ag} (h : IsOf xs a) (hl : xs.length = ys.length) (hs : sm xs = sm ys) (hm : ∀ z, z ∈ xs ↔ z ∈ ys) : IsOf ys a := by
  have hn : ys = [] → xs = [] := fun e => by subst e; exact List.eq_nil_of_length_eq_zero (by simpa using hl)
  exact ⟨by rw [h.c, hl], by rw [h.s, hs], fun e => h.none (hn e), fun e => (hm _).1 (h.mn (fun e2 => e (by subst e2; exact List.eq_nil_of_length_eq_zero (by simpa using hl.symm)))), fun z hz => h.lo z ((hm z).2 hz),
    fun e => (hm _).1 (h.mx (fun e2 => e (by subst e2; exact List.eq_nil_of_length_eq_zero (by simpa using hl.symm)))), fun z hz => h.hi z ((hm z).2 hz)⟩
theorem IsOf.cnt {xs : List Int} {a : Ag} (h : IsOf xs a) : a.c < 1 ↔ xs = [] := by
  rw [h.c]
  cases xs with
  | nil => simp
  | cons x xs => simp; omega
theorem IsOf.merge {xs ys : List Int} {a b : Ag} (ha : IsOf xs a) (hb : IsOf ys b) (hl : xs.length + ys.length ≤ 1000000) : IsOf (xs ++ ys) (mrg a b) := by
  by_cases h1 : xs = []
  · have h1' := ha.cnt.2 h1
    subst h1
    by_cases h2 : ys = []
    · have h2' := hb.cnt.2 h2
      subst h2
      rw [mrg_oo h1' h2']
      exact IsOf.nil
    · rw [mrg_ox h1' (fun h => h2 (hb.cnt.1 h))]
      exact hb
  · have h1' : ¬ a.c < 1 := fun h => h1 (ha.cnt.1 h)
    by_cases h2 : ys = []
    · have h2' := hb.cnt.2 h2
      subst h2
      rw [mrg_xo h1' h2', List.append_nil]
      exact ha
    · have h2' : ¬ b.c < 1 := fun h => h2 (hb.cnt.1 h)
      rw [mrg_xx h1' h2']
      have m1 := ha.mn h1
      have m2 := hb.mn h2
      have m3 := ha.mx h1
      have m4 := hb.mx h2
      refine ⟨?_, ?_, fun e => (h1 (List.append_eq_nil_iff.1 e).1).elim, fun _ => ?_, fun z hz => ?_, fun _ => ?_, fun z hz => ?_⟩
      · show wrap64 (a.c + b.c) = _
        rw [ha.c, hb.c, List.length_append, wr_id (by unfold inI; omega)]
        omega
      · show wrap64 (a.s + b.s) = _
        rw [ha.s, hb.s, wr_add, wr_add2, sm_append]
      · show min a.mn b.mn ∈ _
        rw [List.mem_append]
        rcases Int.le_total a.mn b.mn with h | h
        · rw [Int.min_eq_left h]; exact .inl m1
        · rw [Int.min_eq_right h]; exact .inr m2
      · show min a.mn b.mn ≤ z
        rcases List.mem_append.1 hz with h | h
        · have := ha.lo z h; omega
        · have := hb.lo z h; omega
      · show max a.mx b.mx ∈ _
        rw [List.mem_append]
        rcases Int.le_total a.mx b.mx with h | h
        · rw [Int.max_eq_right h]; exact .inr m4
        · rw [Int.max_eq_left h]; exact .inl m3
      · show z ≤ max a.mx b.mx
        rcases List.mem_append.1 hz with h | h
        · have := ha.hi z h; omega
        · have := hb.hi z h; omega
theorem snoc_ind {p : List Int → Prop} (h0 : p []) (h1 : ∀ xs x, p xs → p (xs ++ [x])) (xs : List Int) : p xs := by
  have : ∀ ys : List Int, p ys.reverse := by
    intro ys
    induction ys with
    | nil => exact h0
    | cons y ys ih => rw [List.reverse_cons]; exact h1 _ _ ih
  have := this xs.reverse
  rwa [List.reverse_reverse] at this
theorem isOf (zs : List Int) : zs.length ≤ 1000000 → (∀ z ∈ zs, inI z) → IsOf zs (ofL zs) := by
  refine snoc_ind (p := fun zs => zs.length ≤ 1000000 → (∀ z ∈ zs, inI z) → IsOf zs (ofL zs)) (fun _ _ => IsOf.nil) (fun xs x ih hl hi => ?_) zs
  rw [ofL_snoc]
  simp only [List.length_append, List.length_cons, List.length_nil] at hl
  exact (ih (by omega) (fun z hz => hi z (List.mem_append_left _ hz))).merge (IsOf.one (hi x (by simp))) (by simpa using hl)
theorem ofL_ok (zs : List Int) : (∀ z ∈ zs, inI z) → (ofL zs).ok := by
  refine snoc_ind (p := fun zs => (∀ z ∈ zs, inI z) → (ofL zs).ok) (fun _ => nil0_ok) (fun xs x ih hi => ?_) zs
  rw [ofL_snoc]
  exact mrg_ok (ih (fun z hz => hi z (List.mem_append_left _ hz))) (one1_ok (hi x (by simp)))
theorem ofL_cat {xs ys : List Int} (hl : xs.length + ys.length ≤ 1000000) (hx : ∀ z ∈ xs, inI z) (hy : ∀ z ∈ ys, inI z) : mrg (ofL xs) (ofL ys) = ofL (xs ++ ys) :=
  ((isOf xs (by omega) hx).merge (isOf ys (by omega) hy) hl).unique (isOf (xs ++ ys) (by rw [List.length_append]; exact hl) (fun z hz => (List.mem_append.1 hz).elim (hx z) (hy z)))
theorem ofL_reverse {xs : List Int} (hl : xs.length ≤ 1000000) (hx : ∀ z ∈ xs, inI z) : ofL xs.reverse = ofL xs :=
  ((isOf xs.reverse (by simpa using hl) (fun z hz => hx z (List.mem_reverse.1 hz))).like (by simp) (sm_reverse xs) (fun z => List.mem_reverse)).unique (isOf xs hl hx)
theorem ofL_comm {xs ys : List Int} (hl : xs.length + ys.length ≤ 1000000) (hx : ∀ z ∈ xs, inI z) (hy : ∀ z ∈ ys, inI z) : mrg (ofL ys) (ofL xs) = ofL (xs ++ ys) :=
  (((isOf ys (by omega) hy).merge (isOf xs (by omega) hx) (by omega)).like (by simp; omega) (by simp [sm_append]; omega) (fun z => by simp [or_comm])).unique (isOf (xs ++ ys) (by rw [List.length_append]; exact hl) (fun z hz => (List.mem_append.1 hz).elim (hx z) (hy z)))

/-- The average, rounded down; 0 of nothing. -/
def avg (a : Ag) : Int := if a.c < 1 then 0 else a.s / a.c
theorem tdiv_down {s c : Int} (hc : 0 < c) (h : s.tmod c < 0) : s.tdiv c - 1 = s / c := by
  have h1 : c * s.tdiv c + s.tmod c = s := Int.mul_tdiv_add_tmod s c
  have h2 := Int.lt_tmod_of_pos s hc
  have h3 : s / c = s.tdiv c - 1 := by
    rw [Int.ediv_eq_iff_of_pos hc]
    generalize s.tdiv c = q at *
    generalize s.tmod c = r at *
    rw [Int.sub_mul]
    have : q * c = c * q := Int.mul_comm _ _
    generalize c * q = m at *
    constructor <;> omega
  exact h3.symm
theorem tdiv_same {s c : Int} (hc : 0 < c) (h : ¬ s.tmod c < 0) : s.tdiv c = s / c := by
  have h1 : c * s.tdiv c + s.tmod c = s := Int.mul_tdiv_add_tmod s c
  have h2 := Int.tmod_lt_of_pos s hc
  have h3 : s / c = s.tdiv c := by
    rw [Int.ediv_eq_iff_of_pos hc]
    generalize s.tdiv c = q at *
    generalize s.tmod c = r at *
    have : q * c = c * q := Int.mul_comm _ _
    generalize c * q = m at *
    constructor <;> omega
  exact h3.symm
end Go.Proofs.Ytopengbflnoneaa
