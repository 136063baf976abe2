/- Spans as pairs of numbers: sets, what is in them, how many keys they have. Nothing of the program. -/
import Derived.Test.YtmdhbbibghpijaaDoorPair
namespace Go.Proofs.YtmdhbbibghpijaaDoor
open Go.RowKit

/-- A span. -/
structure Sp where
  lo : Int
  hi : Int
def Sp.ok (s : Sp) : Prop := (0 ≤ s.lo ∧ s.lo ≤ 4294967295) ∧ 0 ≤ s.hi ∧ s.hi ≤ 4294967295
theorem sp_ext {a b : Sp} (h1 : a.lo = b.lo) (h2 : a.hi = b.hi) : a = b := by cases a; cases b; simp_all
/-- Is a key in a span? -/
def inS (s : Sp) (k : Int) : Prop := s.lo ≤ k ∧ k ≤ s.hi
/-- Is a key in spans? -/
def mem (zs : List Sp) (k : Int) : Prop := ∃ s ∈ zs, inS s k
theorem mem_nil (k : Int) : ¬ mem [] k := fun ⟨_, h, _⟩ => by cases h
theorem mem_cons {s : Sp} {zs : List Sp} {k : Int} : mem (s :: zs) k ↔ inS s k ∨ mem zs k := by simp [mem]
theorem mem_append {xs ys : List Sp} {k : Int} : mem (xs ++ ys) k ↔ mem xs k ∨ mem ys k := by
  unfold mem
  simp [or_and_right, exists_or]
theorem mem_perm {xs ys : List Sp} (h : xs.Perm ys) {k : Int} : mem xs k ↔ mem ys k := by
  unfold mem
  simp [h.mem_iff]
/-- Are spans a set? -/
def Rt (zs : List Sp) : Prop := (∀ s ∈ zs, s.lo ≤ s.hi) ∧ zs.Pairwise (fun a b => a.hi + 1 < b.lo)
theorem Rt.nil : Rt [] := ⟨by simp, List.Pairwise.nil⟩
theorem Rt.tail {s : Sp} {zs : List Sp} (h : Rt (s :: zs)) : Rt zs := ⟨fun x hx => h.1 x (by simp [hx]), (List.pairwise_cons.1 h.2).2⟩
theorem Rt.behind {s : Sp} {zs : List Sp} (h : Rt (s :: zs)) {k : Int} (hk : mem zs k) : s.hi + 1 < k := by
  obtain ⟨x, hx, h1, _⟩ := hk
  have := (List.pairwise_cons.1 h.2).1 x hx
  omega
/-- A set is one alone. -/
theorem Rt.unique : ∀ {xs ys : List Sp}, Rt xs → Rt ys → (∀ k, mem xs k ↔ mem ys k) → xs = ys
  | [], [], _, _, _ => rfl
  | [], y :: ys, _, hy, h => by
    have h1 := hy.1 y (by simp)
    exact absurd ((h y.lo).2 (mem_cons.2 (.inl ⟨Int.le_refl _, h1⟩))) (mem_nil _)
  | x :: xs, [], hx, _, h => by
    have h1 := hx.1 x (by simp)
    exact absurd ((h x.lo).1 (mem_cons.2 (.inl ⟨Int.le_refl _, h1⟩))) (mem_nil _)
  | x :: xs, y :: ys, hx, hy, h => by
    have x1 := hx.1 x (by simp)
    have y1 := hy.1 y (by simp)
    have hlo : x.lo = y.lo := by
      have a := (h x.lo).1 (mem_cons.2 (.inl ⟨Int.le_refl _, x1⟩))
      have b := (h y.lo).2 (mem_cons.2 (.inl ⟨Int.le_refl _, y1⟩))
      rcases mem_cons.1 a with ⟨a1, _⟩ | a1 <;> rcases mem_cons.1 b with ⟨b1, _⟩ | b1
      · omega
      · have := hx.behind b1; omega
      · have := hy.behind a1; omega
      · have := hx.behind b1; have := hy.behind a1; omega
    have hhi : x.hi = y.hi := by
      rcases Int.lt_trichotomy x.hi y.hi with hlt | heq | hgt
      · have a := (h (x.hi + 1)).2 (mem_cons.2 (.inl ⟨by omega, by omega⟩))
        rcases mem_cons.1 a with ⟨_, a2⟩ | a1
        · omega
        · have := hx.behind a1; omega
      · exact heq
      · have a := (h (y.hi + 1)).1 (mem_cons.2 (.inl ⟨by omega, by omega⟩))
        rcases mem_cons.1 a with ⟨_, a2⟩ | a1
        · omega
        · have := hy.behind a1; omega
    have e : x = y := sp_ext hlo hhi
    subst e
    congr 1
    refine Rt.unique hx.tail hy.tail fun k => ⟨fun hk => ?_, fun hk => ?_⟩
    · have h1 := hx.behind hk
      rcases mem_cons.1 ((h k).1 (mem_cons.2 (.inr hk))) with ⟨_, h2⟩ | h2
      · omega
      · exact h2
    · have h1 := hy.behind hk
      rcases mem_cons.1 ((h k).2 (mem_cons.2 (.inr hk))) with ⟨_, h2⟩ | h2
      · omega
      · exact h2
/-- r is the set of the keys of P. -/
structure IsSet (r : List Sp) (P : Int → Prop) : Prop where
  rt : Rt r
  mem : ∀ k, mem r k ↔ P k
  ok : ∀ s ∈ r, s.ok
theorem IsSet.unique {r r' : List Sp} {P P' : Int → Prop} (h : IsSet r P) (h' : IsSet r' P') (hp : ∀ k, P k ↔ P' k) : r = r' :=
  h.rt.unique h'.rt fun k => (h.mem k).trans ((hp k).trans (h'.mem k).symm)
theorem IsSet.congr {r : List Sp} {P P' : Int → Prop} (h : IsSet r P) (hp : ∀ k, P k ↔ P' k) : IsSet r P' := ⟨h.rt, fun k => (h.mem k).trans (hp k), h.ok⟩
theorem rt_snoc {zs : List Sp} {s : Sp} (h : Rt zs) (hs : s.lo ≤ s.hi) (hb : ∀ x ∈ zs, x.hi + 1 < s.lo) : Rt (zs ++ [s]) := by
  refine ⟨fun x hx => ?_, ?_⟩
  · rcases List.mem_append.1 hx with hx | hx
    · exact h.1 x hx
    · obtain rfl : x = s := by simpa using hx
      exact hs
  · rw [List.pairwise_append]
    exact ⟨h.2, List.pairwise_singleton _ _, fun a ha b hb' => by obtain rfl : b = s := by simpa using hb'
                                                                  exact hb a ha⟩
/-- Only the last end counts. -/
theorem rt_last {zs : List Sp} {t : Sp} (h : Rt (zs ++ [t])) : ∀ x ∈ zs ++ [t], x.hi ≤ t.hi := by
  intro x hx
  rcases List.mem_append.1 hx with hx | hx
  · have := (List.pairwise_append.1 h.2).2.2 x hx t (by simp)
    have := h.1 t (by simp)
    omega
  · obtain rfl : x = t := by simpa using hx
    exact Int.le_refl _

/- How many. -/
/-- How many numbers below n are as p says. -/
def cnt : Nat → (Nat → Bool) → Nat
  | 0, _ => 0
  | n + 1, p => cnt n p + (if p n then 1 else 0)
theorem cnt_congr {p q : Nat → Bool} : ∀ {n : Nat}, (∀ i, i < n → p i = q i) → cnt n p = cnt n q
  | 0, _ => rfl
  | n + 1, h => by rw [cnt, cnt, cnt_congr fun i hi => h i (by omega), h n (by omega)]
theorem cnt_add (p q : Nat → Bool) : ∀ n, cnt n (fun i => p i || q i) + cnt n (fun i => p i && q i) = cnt n p + cnt n q
  | 0 => rfl
  | n + 1 => by
    have := cnt_add p q n
    simp only [cnt]
    rcases Bool.eq_false_or_eq_true (p n) with hp | hp <;> rcases Bool.eq_false_or_eq_true (q n) with hq | hq <;> simp [hp, hq] <;> omega
theorem cnt_not (p : Nat → Bool) : ∀ n, cnt n (fun i => !p i) + cnt n p = n
  | 0 => rfl
  | n + 1 => by
    have := cnt_not p n
    simp only [cnt]
    rcases Bool.eq_false_or_eq_true (p n) with hp | hp <;> simp [hp] <;> omega
theorem cnt_le (p : Nat → Bool) : ∀ n, cnt n p ≤ n
  | 0 => Nat.le_refl _
  | n + 1 => by
    have := cnt_le p n
    simp only [cnt]
    split <;> omega
theorem cnt_zero {p : Nat → Bool} : ∀ {n : Nat}, (∀ i, i < n → p i = false) → cnt n p = 0
  | 0, _ => rfl
  | n + 1, h => by rw [cnt, cnt_zero fun i hi => h i (by omega), h n (by omega)]; rfl
theorem cnt_span (a b : Nat) : ∀ n, cnt n (fun i => decide (a ≤ i) && decide (i ≤ b)) = min n (b + 1) - min n a
  | 0 => by simp [cnt]
  | n + 1 => by
    rw [cnt, cnt_span a b n]
    by_cases h1 : a ≤ n <;> by_cases h2 : n ≤ b <;> simp [h1, h2] <;> omega
/-- A key in spans, as a test. -/
def hasB (zs : List Sp) (k : Int) : Bool := zs.any fun s => decide (s.lo ≤ k) && decide (k ≤ s.hi)
theorem hasB_iff {zs : List Sp} {k : Int} : hasB zs k = true ↔ mem zs k := by
  unfold hasB mem inS
  simp
def memB (zs : List Sp) (i : Nat) : Bool := hasB zs i
/-- How many keys a set has. -/
def szL : List Sp → Int
  | [] => 0
  | s :: zs => s.hi - s.lo + 1 + szL zs
theorem szL_append : ∀ (xs ys : List Sp), szL (xs ++ ys) = szL xs + szL ys
  | [], ys => by simp [szL]
  | x :: xs, ys => by simp [szL, szL_append xs ys]; omega
theorem szL_nonneg {zs : List Sp} (h : Rt zs) : 0 ≤ szL zs := by
  induction zs with
  | nil => simp [szL]
  | cons s zs ih =>
    have := ih h.tail
    have := h.1 s (by simp)
    simp only [szL]
    omega
theorem szL_cnt : ∀ {zs : List Sp}, Rt zs → (∀ s ∈ zs, s.ok) → szL zs = (cnt 4294967296 (memB zs) : Nat)
  | [], _, _ => by
    rw [cnt_zero (fun i _ => by simp [memB, hasB])]
    rfl
  | s :: zs, h, hok => by
    have ih := szL_cnt h.tail (fun x hx => hok x (by simp [hx]))
    obtain ⟨⟨o1, o2⟩, o3, o4⟩ := hok s (by simp)
    have hs := h.1 s (by simp)
    have e1 := cnt_add (fun i => decide (s.lo.toNat ≤ i) && decide (i ≤ s.hi.toNat)) (memB zs) 4294967296
    have e2 := cnt_span s.lo.toNat s.hi.toNat 4294967296
    have e3 : cnt 4294967296 (fun i => (decide (s.lo.toNat ≤ i) && decide (i ≤ s.hi.toNat)) && memB zs i) = 0 := by
      refine cnt_zero fun i _ => ?_
      rw [← Bool.not_eq_true, Bool.and_eq_true]
      rintro ⟨h1, h2⟩
      have := h.behind (hasB_iff.1 h2)
      simp at h1
      omega
    have e4 : cnt 4294967296 (memB (s :: zs)) = cnt 4294967296 (fun i => (decide (s.lo.toNat ≤ i) && decide (i ≤ s.hi.toNat)) || memB zs i) := by
      refine cnt_congr fun i _ => ?_
      rw [Bool.eq_iff_iff, Bool.or_eq_true]
      simp only [memB, hasB_iff, decide_eq_true_eq, mem_cons, Bool.and_eq_true]
      unfold inS
      constructor
      · rintro (⟨h1, h2⟩ | h1)
        · exact .inl ⟨by omega, by omega⟩
        · exact .inr h1
      · rintro (⟨h1, h2⟩ | h1)
        · exact .inl ⟨by omega, by omega⟩
        · exact .inr h1
    rw [szL, ih, e4]
    omega
end Go.Proofs.YtmdhbbibghpijaaDoor
