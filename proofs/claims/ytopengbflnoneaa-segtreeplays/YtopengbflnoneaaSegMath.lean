/- A tree of nodes by numbers: its shape, what it has, and what setting nodes makes of it. Plain mathematics. -/
import Derived.Test.YtopengbflnoneaaArnBase
import Derived.Test.YtopengbflnoneaaAggMath
namespace Go.Proofs.Ytopengbflnoneaa
open Go.RowKit

/-- What a node tells. -/
def nag (z : Nd) : Ag := ⟨z.c, z.s, z.mn, z.mx⟩
def ndOf (l r : Int) (a : Ag) (k : Bool) : Nd := ⟨l, r, a.c, a.s, a.mn, a.mx, k⟩
theorem nag_ndOf (l r : Int) (a : Ag) (k : Bool) : nag (ndOf l r a k) = a := rfl
/-- A tree's shape: each node by its place in the row. -/
inductive Sh where
  | nil : Sh
  | node (j : Nat) (l r : Sh) : Sh
def Sh.idx : Sh → Int
  | .nil => 0
  | .node j _ _ => (j : Int) + 1
def Sh.ins : Sh → List Nat
  | .nil => []
  | .node j l r => j :: (l.ins ++ r.ins)
/-- No node is below another one that stands for a single key. -/
def Sh.fit : Nat → Sh → Prop
  | _, .nil => True
  | 0, .node _ l r => l = .nil ∧ r = .nil
  | h + 1, .node _ l r => Sh.fit h l ∧ Sh.fit h r
/-- The row has this shape. -/
def Shp (xs : List Nd) : Sh → Prop
  | .nil => True
  | .node j l r => (∃ z, xs[j]? = some z ∧ z.l = l.idx ∧ z.r = r.idx) ∧ Shp xs l ∧ Shp xs r
def vs (kvs : List (Int × Int)) : List Int := kvs.map (·.2)
theorem vs_append (a b : List (Int × Int)) : vs (a ++ b) = vs a ++ vs b := by simp [vs]
theorem vs_length (a : List (Int × Int)) : (vs a).length = a.length := by simp [vs]
/-- What a tree has, of keys from lo on. -/
def Val (xs : List Nd) : Nat → Int → Sh → List (Int × Int) → Prop
  | _, _, .nil, kvs => kvs = []
  | 0, lo, .node j _ _, kvs => (∃ z, xs[j]? = some z ∧ nag z = ofL (vs kvs)) ∧ (kvs = [] ∨ ∃ v, inI v ∧ kvs = [(lo, v)])
  | h + 1, lo, .node j l r, kvs => ∃ z, xs[j]? = some z ∧ nag z = ofL (vs kvs) ∧ ((z.k = true ∧ kvs = []) ∨ (z.k = false ∧ ∃ k1 k2, kvs = k1 ++ k2 ∧ Val xs h lo l k1 ∧ Val xs h (lo + 2 ^ h) r k2))

theorem Val.node {xs : List Nd} {h : Nat} {lo : Int} {j : Nat} {l r : Sh} {kvs : List (Int × Int)} (hv : Val xs h lo (.node j l r) kvs) : ∃ z, xs[j]? = some z ∧ nag z = ofL (vs kvs) := by
  cases h with
  | zero => exact hv.1
  | succ h =>
    obtain ⟨z, h1, h2, _⟩ := hv
    exact ⟨z, h1, h2⟩
theorem Val.range {xs : List Nd} : ∀ {h : Nat} {lo : Int} {t : Sh} {kvs : List (Int × Int)}, Val xs h lo t kvs → ∀ p ∈ kvs, lo ≤ p.1 ∧ p.1 < lo + 2 ^ h ∧ inI p.2
  | h, lo, .nil, kvs, hv => by
    have : kvs = [] := by cases h <;> exact hv
    subst this
    simp
  | 0, lo, .node j l r, kvs, hv => by
    rcases hv.2 with rfl | ⟨v, hi, rfl⟩
    · simp
    · intro p hp
      simp at hp
      subst hp
      exact ⟨Int.le_refl _, by simp; omega, hi⟩
  | h + 1, lo, .node j l r, kvs, hv => by
    obtain ⟨z, _, _, ⟨_, rfl⟩ | ⟨_, k1, k2, rfl, v1, v2⟩⟩ := hv
    · simp
    · intro p hp
      have e : (2 : Int) ^ (h + 1) = 2 ^ h + 2 ^ h := by rw [Int.pow_succ]; omega
      have hpos : (0 : Int) < 2 ^ h := Int.pow_pos (by decide)
      rcases List.mem_append.1 hp with hp | hp
      · obtain ⟨a, b, c⟩ := Val.range v1 p hp
        exact ⟨a, by rw [e]; omega, c⟩
      · obtain ⟨a, b, c⟩ := Val.range v2 p hp
        exact ⟨by omega, by rw [e]; omega, c⟩
/-- Keys rise. -/
def Rises (kvs : List (Int × Int)) : Prop := kvs.Pairwise (fun a b => a.1 < b.1)
theorem Val.rises {xs : List Nd} : ∀ {h : Nat} {lo : Int} {t : Sh} {kvs : List (Int × Int)}, Val xs h lo t kvs → Rises kvs
  | h, lo, .nil, kvs, hv => by
    have : kvs = [] := by cases h <;> exact hv
    subst this
    exact List.Pairwise.nil
  | 0, lo, .node j l r, kvs, hv => by
    rcases hv.2 with rfl | ⟨v, hi, rfl⟩
    · exact List.Pairwise.nil
    · exact List.pairwise_singleton _ _
  | h + 1, lo, .node j l r, kvs, hv => by
    obtain ⟨z, _, _, ⟨_, rfl⟩ | ⟨_, k1, k2, rfl, v1, v2⟩⟩ := hv
    · exact List.Pairwise.nil
    · refine List.pairwise_append.2 ⟨Val.rises v1, Val.rises v2, fun a ha b hb => ?_⟩
      have := (Val.range v1 a ha).2.1
      have := (Val.range v2 b hb).1
      omega
/-- Rows that agree where a shape's nodes are. -/
def Agree (xs xs' : List Nd) (P : Nat → Prop) : Prop := ∀ j, P j → xs'[j]? = xs[j]?
theorem Shp.frame {xs xs' : List Nd} : ∀ {t : Sh}, Shp xs t → Agree xs xs' (· ∈ t.ins) → Shp xs' t
  | .nil, _, _ => trivial
  | .node j l r, ⟨⟨z, h1, h2⟩, hl, hr⟩, ha =>
    ⟨⟨z, (ha j (by simp [Sh.ins])).trans h1, h2⟩, hl.frame (fun q hq => ha q (by simp [Sh.ins, hq])), hr.frame (fun q hq => ha q (by simp [Sh.ins, hq]))⟩
theorem Val.frame {xs xs' : List Nd} : ∀ {h : Nat} {lo : Int} {t : Sh} {kvs : List (Int × Int)}, Val xs h lo t kvs → Agree xs xs' (· ∈ t.ins) → Val xs' h lo t kvs
  | h, lo, .nil, kvs, hv, _ => by cases h <;> exact hv
  | 0, lo, .node j l r, kvs, hv, ha => by
    obtain ⟨⟨z, h1, h2⟩, h3⟩ := hv
    exact ⟨⟨z, (ha j (by simp [Sh.ins])).trans h1, h2⟩, h3⟩
  | h + 1, lo, .node j l r, kvs, hv, ha => by
    obtain ⟨z, h1, h2, h3⟩ := hv
    refine ⟨z, (ha j (by simp [Sh.ins])).trans h1, h2, ?_⟩
    rcases h3 with h3 | ⟨hk, k1, k2, e, v1, v2⟩
    · exact .inl h3
    · exact .inr ⟨hk, k1, k2, e, v1.frame (fun q hq => ha q (by simp [Sh.ins, hq])), v2.frame (fun q hq => ha q (by simp [Sh.ins, hq]))⟩
theorem Shp.lt {xs : List Nd} : ∀ {t : Sh}, Shp xs t → ∀ j ∈ t.ins, j < xs.length
  | .nil, _, j, hj => by simp [Sh.ins] at hj
  | .node i l r, ⟨⟨z, h1, _⟩, hl, hr⟩, j, hj => by
    simp [Sh.ins] at hj
    rcases hj with rfl | hj | hj
    · exact (List.getElem?_eq_some_iff.1 h1).1
    · exact Shp.lt hl j hj
    · exact Shp.lt hr j hj
/-- A number that leads to a shape: 0, or whatever isn't there, for none. -/
def Num (xs : List Nd) (t : Sh) (i : Int) : Prop := match t with
  | .nil => ¬ (1 ≤ i ∧ i ≤ (xs.length : Int))
  | .node j _ _ => i = (j : Int) + 1
theorem Num.idx (xs : List Nd) (t : Sh) : Num xs t t.idx := by
  cases t with
  | nil => simp [Num, Sh.idx]
  | node j l r => rfl
/-- How many values a tree has is told by its count. -/
theorem cnt0 {xs : List Nd} {h : Nat} {lo : Int} {j : Nat} {l r : Sh} {kvs : List (Int × Int)} {z : Nd} (hv : Val xs h lo (.node j l r) kvs) (hz : xs[j]? = some z) (hl : kvs.length ≤ 1000000) : z.c < 1 ↔ kvs = [] := by
  obtain ⟨z', h1, h2⟩ := hv.node
  obtain rfl : z' = z := Option.some.inj (h1.symm.trans hz)
  have hi : IsOf (vs kvs) (ofL (vs kvs)) := isOf (vs kvs) (by rw [vs_length]; exact hl) (fun x hx => by
    obtain ⟨p, hp, rfl⟩ := List.mem_map.1 hx
    exact (hv.range p hp).2.2)
  have := hi.cnt
  rw [← h2] at this
  simp only [nag] at this
  rw [this]
  simp [vs]
/-- Of a tree's keys those in a span. -/
def inS (a b : Int) (p : Int × Int) : Bool := decide (a ≤ p.1 ∧ p.1 ≤ b)
theorem inS_none {xs : List Nd} {h : Nat} {lo : Int} {t : Sh} {kvs : List (Int × Int)} (hv : Val xs h lo t kvs) (a b : Int) (ha : b < a ∨ lo + 2 ^ h - 1 < a ∨ b < lo) : kvs.filter (inS a b) = [] := by
  apply List.filter_eq_nil_iff.2
  intro p hp
  have := hv.range p hp
  simp [inS]
  omega
theorem inS_all {xs : List Nd} {h : Nat} {lo : Int} {t : Sh} {kvs : List (Int × Int)} (hv : Val xs h lo t kvs) (a b : Int) (ha : a ≤ lo) (hb : lo + 2 ^ h - 1 ≤ b) : kvs.filter (inS a b) = kvs := by
  apply List.filter_eq_self.2
  intro p hp
  have := hv.range p hp
  simp [inS]
  omega
theorem not_none {xs : List Nd} {h : Nat} {lo : Int} {t : Sh} {kvs : List (Int × Int)} (hv : Val xs h lo t kvs) (a b : Int) (ha : b < a ∨ lo + 2 ^ h - 1 < a ∨ b < lo) : kvs.filter (fun p => !inS a b p) = kvs := by
  apply List.filter_eq_self.2
  intro p hp
  have := hv.range p hp
  simp [inS]
  omega
theorem not_all {xs : List Nd} {h : Nat} {lo : Int} {t : Sh} {kvs : List (Int × Int)} (hv : Val xs h lo t kvs) (a b : Int) (ha : a ≤ lo) (hb : lo + 2 ^ h - 1 ≤ b) : kvs.filter (fun p => !inS a b p) = [] := by
  apply List.filter_eq_nil_iff.2
  intro p hp
  have := hv.range p hp
  simp [inS]
  omega
theorem vals_in {xs : List Nd} {h : Nat} {lo : Int} {t : Sh} {kvs : List (Int × Int)} (hv : Val xs h lo t kvs) (f : Int × Int → Bool) : ∀ x ∈ vs (kvs.filter f), inI x := fun x hx => by
  obtain ⟨p, hp, rfl⟩ := List.mem_map.1 hx
  exact (hv.range p (List.mem_filter.1 hp).1).2.2
/-- What is told of both halves is told of all. -/
theorem both_halves {xs : List Nd} {h : Nat} {lo lo' : Int} {l r : Sh} {k1 k2 : List (Int × Int)} (v1 : Val xs h lo l k1) (v2 : Val xs h lo' r k2) (hl : (k1 ++ k2).length ≤ 1000000) (f : Int × Int → Bool) :
    mrg (ofL (vs (k1.filter f))) (ofL (vs (k2.filter f))) = ofL (vs ((k1 ++ k2).filter f)) := by
  rw [List.filter_append, vs_append]
  have h1 := List.length_filter_le f k1
  have h2 := List.length_filter_le f k2
  rw [List.length_append] at hl
  exact ofL_cat (by rw [vs_length, vs_length]; omega) (vals_in v1 f) (vals_in v2 f)
theorem nag_idx {xs : List Nd} {h : Nat} {lo : Int} {t : Sh} {kvs : List (Int × Int)} (hv : Val xs h lo t kvs) : (t = .nil ∧ ofL (vs kvs) = nil0) ∨ ∃ j l r z, t = .node j l r ∧ xs[j]? = some z ∧ nag z = ofL (vs kvs) := by
  cases t with
  | nil =>
    have : kvs = [] := by cases h <;> exact hv
    subst this
    exact .inl ⟨rfl, rfl⟩
  | node j l r =>
    obtain ⟨z, h1, h2⟩ := hv.node
    exact .inr ⟨j, l, r, z, rfl, h1, h2⟩
/-- A node set anew, above two trees that lie: it has what they have. -/
theorem settled {xs : List Nd} {h : Nat} {lo : Int} {j : Nat} {l r : Sh} {k1 k2 : List (Int × Int)} (hj : j < xs.length) (nl : j ∉ l.ins) (nr : j ∉ r.ins) (s1 : Shp xs l) (s2 : Shp xs r) (v1 : Val xs h lo l k1) (v2 : Val xs h (lo + 2 ^ h) r k2) (hl : (k1 ++ k2).length ≤ 1000000) :
    Shp (xs.set j (ndOf l.idx r.idx (mrg (ofL (vs k1)) (ofL (vs k2))) false)) (.node j l r) ∧ Val (xs.set j (ndOf l.idx r.idx (mrg (ofL (vs k1)) (ofL (vs k2))) false)) (h + 1) lo (.node j l r) (k1 ++ k2) := by
  have hs : (xs.set j (ndOf l.idx r.idx (mrg (ofL (vs k1)) (ofL (vs k2))) false))[j]? = some (ndOf l.idx r.idx (mrg (ofL (vs k1)) (ofL (vs k2))) false) := List.getElem?_set_self hj
  have ag : ∀ t : Sh, j ∉ t.ins → Agree xs (xs.set j (ndOf l.idx r.idx (mrg (ofL (vs k1)) (ofL (vs k2))) false)) (· ∈ t.ins) := fun t ht q hq => List.getElem?_set_ne (fun e => ht (by subst e; exact hq))
  have e := both_halves v1 v2 hl (fun _ => true)
  have ft : ∀ k : List (Int × Int), k.filter (fun _ => true) = k := fun k => List.filter_eq_self.2 (fun _ _ => rfl)
  rw [ft, ft, ft] at e
  refine ⟨⟨⟨_, hs, rfl, rfl⟩, s1.frame (ag l nl), s2.frame (ag r nr)⟩, _, hs, ?_, .inr ⟨rfl, k1, k2, rfl, v1.frame (ag l nl), v2.frame (ag r nr)⟩⟩
  rw [nag_ndOf, e]
/-- A killed node has nothing, whatever is below it. -/
theorem killed {xs : List Nd} {h : Nat} {lo : Int} {j : Nat} {l r : Sh} (hj : j < xs.length) (nl : j ∉ l.ins) (nr : j ∉ r.ins) (s1 : Shp xs l) (s2 : Shp xs r) :
    Shp (xs.set j (ndOf l.idx r.idx nil0 true)) (.node j l r) ∧ Val (xs.set j (ndOf l.idx r.idx nil0 true)) h lo (.node j l r) [] := by
  have hs : (xs.set j (ndOf l.idx r.idx nil0 true))[j]? = some (ndOf l.idx r.idx nil0 true) := List.getElem?_set_self hj
  have ag : ∀ t : Sh, j ∉ t.ins → Agree xs (xs.set j (ndOf l.idx r.idx nil0 true)) (· ∈ t.ins) := fun t ht q hq => List.getElem?_set_ne (fun e => ht (by subst e; exact hq))
  refine ⟨⟨⟨_, hs, rfl, rfl⟩, s1.frame (ag l nl), s2.frame (ag r nr)⟩, ?_⟩
  cases h with
  | zero => exact ⟨⟨_, hs, rfl⟩, .inl rfl⟩
  | succ h => exact ⟨_, hs, rfl, .inl ⟨rfl, rfl⟩⟩
/-- A rising row with a key put in. -/
def insK (key v : Int) (kvs : List (Int × Int)) : List (Int × Int) := kvs.filter (fun p => decide (p.1 < key)) ++ (key, v) :: kvs.filter (fun p => decide (key < p.1))
theorem insK_left {xs : List Nd} {h : Nat} {mid : Int} {t : Sh} {k1 k2 : List (Int × Int)} (hv : Val xs h mid t k2) (key v : Int) (hk : key < mid) : insK key v (k1 ++ k2) = insK key v k1 ++ k2 := by
  have e1 : k2.filter (fun p => decide (p.1 < key)) = [] := by
    apply List.filter_eq_nil_iff.2
    intro p hp
    have := hv.range p hp
    simp
    omega
  have e2 : k2.filter (fun p => decide (key < p.1)) = k2 := by
    apply List.filter_eq_self.2
    intro p hp
    have := hv.range p hp
    simp
    omega
  unfold insK
  rw [List.filter_append, List.filter_append, e1, e2, List.append_nil, List.append_assoc]
  rfl
theorem insK_right {xs : List Nd} {h : Nat} {lo mid : Int} {t : Sh} {k1 k2 : List (Int × Int)} (hv : Val xs h lo t k1) (hm : lo + 2 ^ h ≤ mid) (key v : Int) (hk : mid ≤ key) : insK key v (k1 ++ k2) = k1 ++ insK key v k2 := by
  have e1 : k1.filter (fun p => decide (p.1 < key)) = k1 := by
    apply List.filter_eq_self.2
    intro p hp
    have := hv.range p hp
    simp
    omega
  have e2 : k1.filter (fun p => decide (key < p.1)) = [] := by
    apply List.filter_eq_nil_iff.2
    intro p hp
    have := hv.range p hp
    simp
    omega
  unfold insK
  rw [List.filter_append, List.filter_append, e1, e2, List.nil_append, List.append_assoc]
theorem insK_length (key v : Int) (kvs : List (Int × Int)) : (insK key v kvs).length ≤ kvs.length + 1 := by
  have : ∀ l : List (Int × Int), (l.filter (fun p => decide (p.1 < key))).length + (l.filter (fun p => decide (key < p.1))).length ≤ l.length := by
    intro l
    induction l with
    | nil => simp
    | cons p l ih =>
      simp only [List.filter_cons]
      by_cases h1 : p.1 < key
      · have h2 : ¬ key < p.1 := by omega
        simp [h1, h2]
        omega
      · by_cases h2 : key < p.1
        · simp [h1, h2]
          omega
        · simp [h1, h2]
          omega
  have := this kvs
  unfold insK
  simp
  omega
theorem insK_leaf {lo v : Int} {kvs : List (Int × Int)} (h : kvs = [] ∨ ∃ v', inI v' ∧ kvs = [(lo, v')]) : insK lo v kvs = [(lo, v)] := by
  rcases h with rfl | ⟨v', _, rfl⟩ <;> simp [insK]
/-- How many nodes lack on a key's way. -/
def lack : Nat → Int → Int → Sh → Nat
  | h, _, _, .nil => h + 1
  | 0, _, _, .node _ _ _ => 0
  | h + 1, lo, key, .node _ l r => if key < lo + 2 ^ h then lack h lo key l else lack h (lo + 2 ^ h) key r
/-- The first of a row whose key isn't below another one. -/
def firstK (lo : Int) (kvs : List (Int × Int)) : Option (Int × Int) := (kvs.filter (fun p => decide (lo ≤ p.1))).head?
theorem firstK_append (lo : Int) (k1 k2 : List (Int × Int)) : firstK lo (k1 ++ k2) = (firstK lo k1).or (firstK lo k2) := by
  unfold firstK
  rw [List.filter_append]
  cases k1.filter (fun p => decide (lo ≤ p.1)) with
  | nil => simp
  | cons p l => simp
end Go.Proofs.Ytopengbflnoneaa
