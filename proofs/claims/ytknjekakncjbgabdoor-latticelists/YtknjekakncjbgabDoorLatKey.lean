/- A label as a map's key; the map from labels to their places, as it reads. -/
import Derived.Test.YtknjekakncjbgabDoorLabDom
import Derived.Maps.OwnSet
import Derived.DeepKeys4
namespace Go.Proofs.YtknjekakncjbgabDoor
open Go.RowKit

theorem lbLaidOut : laidOutB Tryd.prog = true := by kernel_rfl
theorem lbRow : (25 : TypeId) < Tryd.prog.types.size := of_decide_eq_true (by kernel_rfl)
theorem lbCells : Tryd.prog.cellsOf 25 = 2 := by kernel_rfl
theorem lbWide : (match Tryd.prog.underlying 25 with | some (.array _ _) | some (.struct _) => true | _ => false) = true := by kernel_rfl
theorem lbLaw : WideMaps.KeyLaw Tryd.prog 25 := deep_law_laid lbLaidOut (m := 2) (by omega) lbRow (by kernel_rfl) lbWide
theorem lbKeyed : Maps.Keyed Tryd.prog 25 := Maps.Keyed.of_law lbLaw
theorem lbKeyType : Tryd.prog.keyType 25 = true := by kernel_rfl
theorem lbSome : ∃ m, Tryd.prog.types.size = m + 1 := ⟨Tryd.prog.types.size - 1, by have h : (25 : Nat) < Tryd.prog.types.size := lbRow; omega⟩

theorem wf_u8 {a : Int} (h : 0 ≤ a ∧ a ≤ 255) : (Lit.int .u8 a).wf = true := by
  have e1 : IntKind.u8.min = 0 := by decide
  have e2 : IntKind.u8.max = 255 := by decide
  simp [Lit.wf, e1, e2]; omega
theorem wf_u16 {a : Int} (h : 0 ≤ a ∧ a ≤ 65535) : (Lit.int .u16 a).wf = true := by
  have e1 : IntKind.u16.min = 0 := by decide
  have e2 : IntKind.u16.max = 65535 := by decide
  simp [Lit.wf, e1, e2]; omega

/-- What a label reads as, as a key. -/
def kl (l : Lb) : Lit := .string (keyBytes [.int .u8 l.lv, .int .u16 l.ct])
theorem keyOf_lb {l : Lb} (h : l.ok) : keyOf Tryd.prog 25 (.agg #[.int .u8 l.lv, .int .u16 l.ct]) = some (kl l) := by
  obtain ⟨f0, f1, e, o0, o1, t0, t1, n0, n1⟩ := lbFields
  obtain ⟨m, hm⟩ := lbSome
  have w0 := wf_u8 h.1
  have w1 := wf_u16 h.2
  have hf : (Value.agg #[.int .u8 l.lv, .int .u16 l.ct]).formed Tryd.prog 25 = true := by simp [Value.formed, e, lbCells]
  have c8 : Tryd.prog.cellsOf 5 = 1 := by kernel_rfl
  have c16 : Tryd.prog.cellsOf 23 = 1 := by kernel_rfl
  unfold keyOf
  rw [e]
  simp only [lbKeyType, hf, Bool.and_self, if_true, hm]
  rw [Program.keyLits.eq_def]
  simp [e, lbCells, Value.cells, n0, n1, o0, o1, t0, t1, c8, c16, Program.keyLits, Tryd.underlying5, Tryd.underlying23, w0, w1, kl]
theorem kl_inj {a b : Lb} (ha : a.ok) (hb : b.ok) (h : kl a = kl b) : a = b := by
  have := lbLaw.inj (keyOf_lb ha) (by rw [h]; exact keyOf_lb hb)
  simp at this
  exact lb_ext this.1 this.2
theorem kl_key (l : Lb) : WideAt.IsKeyLit (kl l) := by simp [kl, WideAt.IsKeyLit]

/-- The map of a list: each label's place. -/
def dmp (ls : List Lb) : DataW Unit := (ls.foldl (fun (p : Nat × DataW Unit) x => (p.1 + 1, p.2.put (kl x) (.lit (.int .i64 p.1)))) (0, .map [])).2
theorem dmp_fst : ∀ (ls : List Lb) (p : Nat × DataW Unit), (ls.foldl (fun (p : Nat × DataW Unit) x => (p.1 + 1, p.2.put (kl x) (.lit (.int .i64 p.1)))) p).1 = p.1 + ls.length
  | [], p => rfl
  | x :: ls, p => by rw [List.foldl_cons, dmp_fst ls]; simp; omega
theorem dmp_snoc (ls : List Lb) (x : Lb) : dmp (ls ++ [x]) = (dmp ls).put (kl x) (.lit (.int .i64 ls.length)) := by
  unfold dmp
  rw [List.foldl_append, List.foldl_cons, List.foldl_nil]
  simp only [dmp_fst, Nat.zero_add]
theorem snoc_induct {α : Type} {p : List α → Prop} (h0 : p []) (h1 : ∀ xs x, p xs → p (xs ++ [x])) (xs : List α) : p xs := by
  have : ∀ ys : List α, p ys.reverse := by
    intro ys
    induction ys with
    | nil => exact h0
    | cons y ys ih => rw [List.reverse_cons]; exact h1 _ _ ih
  have h := this xs.reverse
  rwa [List.reverse_reverse] at h
theorem dmp_isMap (ls : List Lb) : Maps.IsMap (dmp ls) := by
  induction ls using snoc_induct with
  | h0 => exact Maps.isMap_empty
  | h1 xs x ih => rw [dmp_snoc]; exact ih.put _ _
theorem dmp_tidy (ls : List Lb) : Maps.Tidy (dmp ls) := by
  induction ls using snoc_induct with
  | h0 => exact Maps.tidy_empty
  | h1 xs x ih => rw [dmp_snoc]; exact ih.put (kl_key x) _
/-- Is it one of them? -/
def hasL (ls : List Lb) (x : Lb) : Bool := ls.any fun y => eqL y x
theorem hasL_iff {ls : List Lb} {x : Lb} : hasL ls x = true ↔ x ∈ ls := by
  unfold hasL
  rw [List.any_eq_true]
  constructor
  · rintro ⟨y, hy, e⟩
    rw [eqL_iff] at e
    exact e ▸ hy
  · intro h
    exact ⟨x, h, eqL_self x⟩
theorem hasL_snoc (ls : List Lb) (y x : Lb) : hasL (ls ++ [y]) x = (hasL ls x || eqL y x) := by simp [hasL]
theorem dmp_has {ls : List Lb} {x : Lb} (hl : ∀ y ∈ ls, y.ok) (hx : x.ok) : Maps.has (dmp ls) (kl x) = hasL ls x := by
  induction ls using snoc_induct with
  | h0 => rfl
  | h1 xs y ih =>
    have ih := ih (fun z hz => hl z (by simp [hz]))
    rw [dmp_snoc, hasL_snoc]
    by_cases h : y = x
    · subst h
      rw [Maps.has_put_same (dmp_isMap xs) (kl_key y), eqL_self, Bool.or_true]
    · rw [Maps.has_put_other (fun e => h (kl_inj hx (hl y (by simp)) e).symm), ih]
      have : eqL y x = false := by
        rw [← Bool.not_eq_true, eqL_iff]; exact h
      rw [this, Bool.or_false]
theorem dmp_size {ls : List Lb} (hl : ∀ y ∈ ls, y.ok) (hn : ls.Nodup) : Maps.size (dmp ls) = ls.length := by
  induction ls using snoc_induct with
  | h0 => rfl
  | h1 xs y ih =>
    have hx : ∀ z ∈ xs, z.ok := fun z hz => hl z (by simp [hz])
    rw [List.nodup_append] at hn
    have ih := ih hx hn.1
    have hno : hasL xs y = false := by
      rw [← Bool.not_eq_true, hasL_iff]
      intro hm
      exact hn.2.2 y hm y (by simp) rfl
    rw [dmp_snoc, Maps.size_put (dmp_tidy xs), dmp_has hx (hl y (by simp)), hno]
    simp [ih]
theorem dmp_at {ls : List Lb} {x : Lb} {j : Nat} (hl : ∀ y ∈ ls, y.ok) (hn : ls.Nodup) (hj : ls[j]? = some x) (z : DataW Unit) : (dmp ls).atKey (kl x) z = .lit (.int .i64 j) := by
  induction ls using snoc_induct with
  | h0 => cases hj
  | h1 xs y ih =>
    have hx : ∀ z ∈ xs, z.ok := fun z hz => hl z (by simp [hz])
    rw [List.nodup_append] at hn
    rw [dmp_snoc]
    rcases Nat.lt_trichotomy j xs.length with h | h | h
    · rw [List.getElem?_append_left h] at hj
      have hm : x ∈ xs := List.mem_of_getElem? hj
      have hne : y ≠ x := fun e => hn.2.2 x hm y (by simp) e.symm
      rw [Maps.atKey_put_other (fun e => hne (kl_inj (hx x hm) (hl y (by simp)) e).symm)]
      exact ih hx hn.1 hj
    · subst h
      rw [List.getElem?_append_right (Nat.le_refl _), Nat.sub_self] at hj
      obtain rfl : y = x := by simpa using hj
      exact Maps.atKey_put_same (dmp_isMap xs) (kl_key y) _ _
    · have := (List.getElem?_eq_some_iff.1 hj).1
      simp at this
      omega
theorem dmp_none {ls : List Lb} {x : Lb} (hl : ∀ y ∈ ls, y.ok) (hx : x.ok) (h : hasL ls x = false) (z : DataW Unit) : (dmp ls).atKey (kl x) z = z := Maps.atKey_of_not_has (by rw [dmp_has hl hx]; exact h) z

theorem zeroInt (w : World) : (zeroValue 3).run Tryd.prog w = .ok (.int .i64 0) w := by kernel_rfl
end Go.Proofs.YtknjekakncjbgabDoor
