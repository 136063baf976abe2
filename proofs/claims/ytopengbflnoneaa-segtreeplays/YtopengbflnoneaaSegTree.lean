/- A tree's shape grows by a key's way; a tree, its parts, and what killing, putting and looking make of it. Plain mathematics. -/
import Derived.Test.YtopengbflnoneaaSegMath
namespace Go.Proofs.Ytopengbflnoneaa
open Go.RowKit

theorem fit_nil (h : Nat) : Sh.fit h .nil := by cases h <;> trivial
theorem lack_nil (h : Nat) (lo key : Int) : lack h lo key .nil = h + 1 := by cases h <;> rfl
theorem val_nil (xs : List Nd) (h : Nat) (lo : Int) : Val xs h lo .nil [] := by cases h <;> rfl
theorem val_nil_eq {xs : List Nd} {h : Nat} {lo : Int} {kvs : List (Int × Int)} (hv : Val xs h lo .nil kvs) : kvs = [] := by cases h <;> exact hv
theorem lack_le : ∀ (h : Nat) (lo key : Int) (t : Sh), lack h lo key t ≤ h + 1
  | h, lo, key, .nil => by rw [lack_nil]; exact Nat.le_refl _
  | 0, lo, key, .node _ _ _ => Nat.zero_le _
  | h + 1, lo, key, .node j l r => by
    have h1 := lack_le h lo key l
    have h2 := lack_le h (lo + 2 ^ h) key r
    unfold lack
    split <;> omega
/-- A shape with a key's way in it; new nodes stand from place n on. -/
def grow : Nat → Int → Int → Nat → Sh → Sh
  | 0, _, _, n, .nil => .node n .nil .nil
  | 0, _, _, _, .node j l r => .node j l r
  | h + 1, lo, key, n, .nil => if key < lo + 2 ^ h then .node n (grow h lo key (n + 1) .nil) .nil else .node n .nil (grow h (lo + 2 ^ h) key (n + 1) .nil)
  | h + 1, lo, key, n, .node j l r => if key < lo + 2 ^ h then .node j (grow h lo key n l) r else .node j l (grow h (lo + 2 ^ h) key n r)
theorem grow_fit : ∀ (h : Nat) (lo key : Int) (n : Nat) (t : Sh), Sh.fit h t → Sh.fit h (grow h lo key n t)
  | 0, _, _, _, .nil, _ => ⟨rfl, rfl⟩
  | 0, _, _, _, .node _ _ _, hf => hf
  | h + 1, lo, key, n, .nil, _ => by
    unfold grow
    split
    · exact ⟨grow_fit h lo key (n + 1) .nil (fit_nil h), fit_nil h⟩
    · exact ⟨fit_nil h, grow_fit h (lo + 2 ^ h) key (n + 1) .nil (fit_nil h)⟩
  | h + 1, lo, key, n, .node j l r, hf => by
    unfold grow
    split
    · exact ⟨grow_fit h lo key n l hf.1, hf.2⟩
    · exact ⟨hf.1, grow_fit h (lo + 2 ^ h) key n r hf.2⟩
theorem grow_ins : ∀ (h : Nat) (lo key : Int) (n : Nat) (t : Sh) (k : Nat), k ∈ (grow h lo key n t).ins → k ∈ t.ins ∨ (n ≤ k ∧ k < n + lack h lo key t)
  | 0, _, _, n, .nil, k, hk => by
    simp [grow, Sh.ins] at hk
    subst hk
    exact .inr ⟨Nat.le_refl _, by rw [lack_nil]; omega⟩
  | 0, _, _, _, .node _ _ _, k, hk => .inl hk
  | h + 1, lo, key, n, .nil, k, hk => by
    rw [lack_nil]
    unfold grow at hk
    split at hk
    · simp [Sh.ins] at hk
      rcases hk with rfl | hk
      · exact .inr ⟨Nat.le_refl _, by omega⟩
      · have := grow_ins h lo key (n + 1) .nil k hk
        rw [lack_nil] at this
        simp [Sh.ins] at this
        exact .inr (by omega)
    · simp [Sh.ins] at hk
      rcases hk with rfl | hk
      · exact .inr ⟨Nat.le_refl _, by omega⟩
      · have := grow_ins h (lo + 2 ^ h) key (n + 1) .nil k hk
        rw [lack_nil] at this
        simp [Sh.ins] at this
        exact .inr (by omega)
  | h + 1, lo, key, n, .node j l r, k, hk => by
    unfold grow at hk
    unfold lack
    split at hk
    · rename_i hc
      rw [if_pos hc]
      simp [Sh.ins] at hk ⊢
      rcases hk with rfl | hk | hk
      · exact .inl (.inl rfl)
      · rcases grow_ins h lo key n l k hk with h1 | h1
        · exact .inl (.inr (.inl h1))
        · exact .inr h1
      · exact .inl (.inr (.inr hk))
    · rename_i hc
      rw [if_neg hc]
      simp [Sh.ins] at hk ⊢
      rcases hk with rfl | hk | hk
      · exact .inl (.inl rfl)
      · exact .inl (.inr (.inl hk))
      · rcases grow_ins h (lo + 2 ^ h) key n r k hk with h1 | h1
        · exact .inl (.inr (.inr h1))
        · exact .inr h1
theorem ins_grow : ∀ (h : Nat) (lo key : Int) (n : Nat) (t : Sh) (k : Nat), k ∈ t.ins → k ∈ (grow h lo key n t).ins
  | _, _, _, _, .nil, k, hk => by simp [Sh.ins] at hk
  | 0, _, _, _, .node _ _ _, k, hk => hk
  | h + 1, lo, key, n, .node j l r, k, hk => by
    unfold grow
    simp [Sh.ins] at hk
    split
    · simp [Sh.ins]
      rcases hk with hk | hk | hk
      · exact .inl hk
      · exact .inr (.inl (ins_grow h lo key n l k hk))
      · exact .inr (.inr hk)
    · simp [Sh.ins]
      rcases hk with hk | hk | hk
      · exact .inl hk
      · exact .inr (.inl hk)
      · exact .inr (.inr (ins_grow h (lo + 2 ^ h) key n r k hk))
theorem nodup_node {j : Nat} {l r : Sh} : (Sh.node j l r).ins.Nodup ↔ (j ∉ l.ins ∧ j ∉ r.ins) ∧ l.ins.Nodup ∧ r.ins.Nodup ∧ ∀ k ∈ l.ins, k ∉ r.ins := by
  simp only [Sh.ins, List.nodup_cons, List.mem_append, not_or]
  constructor
  · rintro ⟨h1, h2⟩
    obtain ⟨h3, h4, h5⟩ := List.nodup_append.1 h2
    exact ⟨h1, h3, h4, fun k hk hk' => h5 k hk k hk' rfl⟩
  · rintro ⟨h1, h3, h4, h5⟩
    exact ⟨h1, List.nodup_append.2 ⟨h3, h4, fun a ha b hb e => h5 a ha (e ▸ hb)⟩⟩
theorem grow_nodup : ∀ (h : Nat) (lo key : Int) (n : Nat) (t : Sh), t.ins.Nodup → (∀ k ∈ t.ins, k < n) → (grow h lo key n t).ins.Nodup
  | 0, _, _, n, .nil, _, _ => by simp [grow, Sh.ins]
  | 0, _, _, _, .node _ _ _, hn, _ => hn
  | h + 1, lo, key, n, .nil, _, _ => by
    have key1 : ∀ lo', n ∉ (grow h lo' key (n + 1) .nil).ins := fun lo' hk => by
      have := grow_ins h lo' key (n + 1) .nil n hk
      simp [Sh.ins] at this
      omega
    unfold grow
    split
    · refine nodup_node.2 ⟨⟨key1 _, by simp [Sh.ins]⟩, grow_nodup h lo key (n + 1) .nil (by simp [Sh.ins]) (by simp [Sh.ins]), by simp [Sh.ins], by simp [Sh.ins]⟩
    · refine nodup_node.2 ⟨⟨by simp [Sh.ins], key1 _⟩, by simp [Sh.ins], grow_nodup h (lo + 2 ^ h) key (n + 1) .nil (by simp [Sh.ins]) (by simp [Sh.ins]), by simp [Sh.ins]⟩
  | h + 1, lo, key, n, .node j l r, hn, hb => by
    obtain ⟨⟨h1, h2⟩, h3, h4, h5⟩ := nodup_node.1 hn
    have bj : j < n := hb j (by simp [Sh.ins])
    have bl : ∀ k ∈ l.ins, k < n := fun k hk => hb k (by simp [Sh.ins, hk])
    have br : ∀ k ∈ r.ins, k < n := fun k hk => hb k (by simp [Sh.ins, hk])
    unfold grow
    split
    · refine nodup_node.2 ⟨⟨fun hk => ?_, h2⟩, grow_nodup h lo key n l h3 bl, h4, fun k hk hk' => ?_⟩
      · rcases grow_ins h lo key n l j hk with hk | hk
        · exact h1 hk
        · omega
      · rcases grow_ins h lo key n l k hk with hk | hk
        · exact h5 k hk hk'
        · have := br k hk'
          omega
    · refine nodup_node.2 ⟨⟨h1, fun hk => ?_⟩, h3, grow_nodup h (lo + 2 ^ h) key n r h4 br, fun k hk hk' => ?_⟩
      · rcases grow_ins h (lo + 2 ^ h) key n r j hk with hk | hk
        · exact h2 hk
        · omega
      · rcases grow_ins h (lo + 2 ^ h) key n r k hk' with hk' | hk'
        · exact h5 k hk hk'
        · have := bl k hk
          omega
theorem grow_idx (h : Nat) (lo key : Int) (n j : Nat) (l r : Sh) : (grow h lo key n (.node j l r)).idx = (j : Int) + 1 := by
  cases h with
  | zero => rfl
  | succ h =>
    unfold grow
    split <;> rfl
theorem grow_nil_idx (h : Nat) (lo key : Int) (n : Nat) : (grow h lo key n .nil).idx = (n : Int) + 1 := by
  cases h with
  | zero => rfl
  | succ h =>
    unfold grow
    split <;> rfl
theorem lack_grow_le : ∀ (h : Nat) (lo key k : Int) (n : Nat) (t : Sh), lack h lo k (grow h lo key n t) ≤ lack h lo k t
  | 0, _, _, _, _, .nil => Nat.zero_le _
  | 0, _, _, _, _, .node _ _ _ => Nat.le_refl _
  | h + 1, lo, key, k, n, .nil => by
    have h1 := lack_le (h + 1) lo k (grow (h + 1) lo key n .nil)
    rw [lack_nil]
    exact h1
  | h + 1, lo, key, k, n, .node j l r => by
    have h1 := lack_grow_le h lo key k n l
    have h2 := lack_grow_le h (lo + 2 ^ h) key k n r
    unfold grow
    split <;> (unfold lack; split <;> first | assumption | exact Nat.le_refl _)
theorem lack_grow_self : ∀ (h : Nat) (lo key : Int) (n : Nat) (t : Sh), lack h lo key (grow h lo key n t) = 0
  | 0, _, _, _, .nil => rfl
  | 0, _, _, _, .node _ _ _ => rfl
  | h + 1, lo, key, n, .nil => by
    have h1 := lack_grow_self h lo key (n + 1) .nil
    have h2 := lack_grow_self h (lo + 2 ^ h) key (n + 1) .nil
    unfold grow
    by_cases hc : key < lo + 2 ^ h
    · rw [if_pos hc]; unfold lack; rw [if_pos hc]; exact h1
    · rw [if_neg hc]; unfold lack; rw [if_neg hc]; exact h2
  | h + 1, lo, key, n, .node j l r => by
    have h1 := lack_grow_self h lo key n l
    have h2 := lack_grow_self h (lo + 2 ^ h) key n r
    unfold grow
    by_cases hc : key < lo + 2 ^ h
    · rw [if_pos hc]; unfold lack; rw [if_pos hc]; exact h1
    · rw [if_neg hc]; unfold lack; rw [if_neg hc]; exact h2
/-- Where nothing lacks, nothing grows. -/
theorem grow_same : ∀ (h : Nat) (lo key : Int) (n : Nat) (t : Sh), lack h lo key t = 0 → grow h lo key n t = t
  | h, lo, key, n, .nil, hl => by rw [lack_nil] at hl; omega
  | 0, _, _, _, .node _ _ _, _ => rfl
  | h + 1, lo, key, n, .node j l r, hl => by
    unfold lack at hl
    unfold grow
    by_cases hc : key < lo + 2 ^ h
    · rw [if_pos hc] at hl
      rw [if_pos hc, grow_same h lo key n l hl]
    · rw [if_neg hc] at hl
      rw [if_neg hc, grow_same h (lo + 2 ^ h) key n r hl]

/-- A tree of nodes: its shape, and what it has. -/
structure Tr (xs : List Nd) (h : Nat) (lo : Int) (t : Sh) (kvs : List (Int × Int)) : Prop where
  shp : Shp xs t
  fit : Sh.fit h t
  nodup : t.ins.Nodup
  val : Val xs h lo t kvs
theorem Tr.frame {xs xs' : List Nd} {h : Nat} {lo : Int} {t : Sh} {kvs : List (Int × Int)} (ht : Tr xs h lo t kvs) (ha : Agree xs xs' (· ∈ t.ins)) : Tr xs' h lo t kvs :=
  ⟨ht.shp.frame ha, ht.fit, ht.nodup, ht.val.frame ha⟩
theorem Tr.nil (xs : List Nd) (h : Nat) (lo : Int) : Tr xs h lo .nil [] := ⟨trivial, fit_nil h, by simp [Sh.ins], val_nil xs h lo⟩
theorem Tr.root {xs : List Nd} {h : Nat} {lo : Int} {j : Nat} {l r : Sh} {kvs : List (Int × Int)} (ht : Tr xs h lo (.node j l r) kvs) : ∃ z, xs[j]? = some z ∧ z.l = l.idx ∧ z.r = r.idx ∧ nag z = ofL (vs kvs) := by
  obtain ⟨⟨z, h1, h2, h3⟩, _, _⟩ := ht.shp
  obtain ⟨z', h4, h5⟩ := ht.val.node
  obtain rfl : z' = z := Option.some.inj (h4.symm.trans h1)
  exact ⟨z', h1, h2, h3, h5⟩
/-- Its halves, where it isn't killed. -/
theorem Tr.halves {xs : List Nd} {h : Nat} {lo : Int} {j : Nat} {l r : Sh} {kvs : List (Int × Int)} {z : Nd} (ht : Tr xs (h + 1) lo (.node j l r) kvs) (hz : xs[j]? = some z) (hk : z.k = false) : ∃ k1 k2, kvs = k1 ++ k2 ∧ Tr xs h lo l k1 ∧ Tr xs h (lo + 2 ^ h) r k2 := by
  obtain ⟨_, s1, s2⟩ := ht.shp
  obtain ⟨z', h1, h2, h3⟩ := ht.val
  obtain rfl : z' = z := Option.some.inj (h1.symm.trans hz)
  obtain ⟨_, n1, n2, _⟩ := nodup_node.1 ht.nodup
  rcases h3 with ⟨h3, _⟩ | ⟨_, k1, k2, e, v1, v2⟩
  · rw [hk] at h3; cases h3
  · exact ⟨k1, k2, e, ⟨s1, ht.fit.1, n1, v1⟩, ⟨s2, ht.fit.2, n2, v2⟩⟩
theorem Tr.killed {xs : List Nd} {h : Nat} {lo : Int} {j : Nat} {l r : Sh} {kvs : List (Int × Int)} {z : Nd} (ht : Tr xs (h + 1) lo (.node j l r) kvs) (hz : xs[j]? = some z) (hk : z.k = true) : kvs = [] := by
  obtain ⟨z', h1, h2, h3⟩ := ht.val
  obtain rfl : z' = z := Option.some.inj (h1.symm.trans hz)
  rcases h3 with ⟨_, h3⟩ | ⟨h3, _⟩
  · exact h3
  · rw [hk] at h3; cases h3
theorem Tr.join {xs : List Nd} {h : Nat} {lo : Int} {j : Nat} {l r : Sh} {k1 k2 : List (Int × Int)} (hj : j < xs.length) (hn : (Sh.node j l r).ins.Nodup) (t1 : Tr xs h lo l k1) (t2 : Tr xs h (lo + 2 ^ h) r k2) (hl : (k1 ++ k2).length ≤ 1000000) :
    Tr (xs.set j (ndOf l.idx r.idx (mrg (ofL (vs k1)) (ofL (vs k2))) false)) (h + 1) lo (.node j l r) (k1 ++ k2) := by
  obtain ⟨⟨h1, h2⟩, _, _, _⟩ := nodup_node.1 hn
  obtain ⟨q1, q2⟩ := settled hj h1 h2 t1.shp t2.shp t1.val t2.val hl
  exact ⟨q1, ⟨t1.fit, t2.fit⟩, hn, q2⟩
theorem Tr.kill {xs : List Nd} {h : Nat} {lo : Int} {j : Nat} {l r : Sh} (hs : Shp xs (.node j l r)) (hf : Sh.fit h (.node j l r)) (hn : (Sh.node j l r).ins.Nodup) : Tr (xs.set j (ndOf l.idx r.idx nil0 true)) h lo (.node j l r) [] := by
  obtain ⟨⟨h1, h2⟩, _, _, _⟩ := nodup_node.1 hn
  have hj := hs.lt j (by simp [Sh.ins])
  obtain ⟨_, s1, s2⟩ := hs
  obtain ⟨q1, q2⟩ := _root_.Go.Proofs.Ytopengbflnoneaa.killed (h := h) (lo := lo) hj h1 h2 s1 s2
  exact ⟨q1, hf, hn, q2⟩
theorem ofL_one (v : Int) : ofL [v] = one1 v := (show ofL [v] = mrg nil0 (one1 v) from rfl).trans (mrg_ox (by decide) (by show ¬ (1 : Int) < 1; decide))
theorem Tr.leaf {xs : List Nd} {lo v : Int} {j : Nat} (hj : j < xs.length) (hv : inI v) : Tr (xs.set j (ndOf 0 0 (one1 v) false)) 0 lo (.node j .nil .nil) [(lo, v)] := by
  have hs : (xs.set j (ndOf 0 0 (one1 v) false))[j]? = some (ndOf 0 0 (one1 v) false) := List.getElem?_set_self hj
  exact ⟨⟨⟨_, hs, rfl, rfl⟩, trivial, trivial⟩, ⟨rfl, rfl⟩, by simp [Sh.ins], ⟨_, hs, by rw [nag_ndOf]; exact (ofL_one v).symm⟩, .inr ⟨v, hv, rfl⟩⟩
/-- At a leaf: nothing, or one value. -/
theorem Tr.at_leaf {xs : List Nd} {lo : Int} {j : Nat} {l r : Sh} {kvs : List (Int × Int)} (ht : Tr xs 0 lo (.node j l r) kvs) : l = .nil ∧ r = .nil ∧ (kvs = [] ∨ ∃ v, inI v ∧ kvs = [(lo, v)]) := ⟨ht.fit.1, ht.fit.2, ht.val.2⟩
theorem Tr.lt {xs : List Nd} {h : Nat} {lo : Int} {t : Sh} {kvs : List (Int × Int)} (ht : Tr xs h lo t kvs) : ∀ k ∈ t.ins, k < xs.length := ht.shp.lt
/-- What a number leads to: none, or a tree's node. -/
theorem Tr.isOf {xs : List Nd} {h : Nat} {lo : Int} {t : Sh} {kvs : List (Int × Int)} (ht : Tr xs h lo t kvs) (hl : kvs.length ≤ 1000000) : IsOf (vs kvs) (ofL (vs kvs)) := _root_.Go.Proofs.Ytopengbflnoneaa.isOf (vs kvs) (by rw [vs_length]; exact hl) (fun x hx => by
    obtain ⟨p, hp, rfl⟩ := List.mem_map.1 hx
    exact (ht.val.range p hp).2.2)
theorem Tr.cnt0 {xs : List Nd} {h : Nat} {lo : Int} {j : Nat} {l r : Sh} {kvs : List (Int × Int)} {z : Nd} (ht : Tr xs h lo (.node j l r) kvs) (hz : xs[j]? = some z) (hl : kvs.length ≤ 1000000) : z.c = 0 ↔ kvs = [] := by
  obtain ⟨z', h1, _, _, h2⟩ := ht.root
  obtain rfl : z' = z := Option.some.inj (h1.symm.trans hz)
  have hi := ht.isOf hl
  rw [← h2] at hi
  have := hi.c
  simp only [nag, vs_length] at this
  constructor
  · intro e
    apply List.eq_nil_of_length_eq_zero
    omega
  · rintro rfl
    simpa using this
/-- The first of a tree's keys from one on. -/
theorem firstK_nil (lo : Int) : firstK lo [] = none := rfl
theorem firstK_none {xs : List Nd} {h : Nat} {lo : Int} {t : Sh} {kvs : List (Int × Int)} (hv : Val xs h lo t kvs) (fr : Int) (hf : lo + 2 ^ h - 1 < fr) : firstK fr kvs = none := by
  unfold firstK
  have : kvs.filter (fun p => decide (fr ≤ p.1)) = [] := by
    apply List.filter_eq_nil_iff.2
    intro p hp
    have := hv.range p hp
    simp
    omega
  rw [this]
  rfl
theorem firstK_leaf {lo fr v : Int} (h : fr ≤ lo) : firstK fr [(lo, v)] = some (lo, v) := by simp [firstK, h]
end Go.Proofs.Ytopengbflnoneaa
