/- An arena, and the document's, side by side. -/
import Derived.Test.YtdnhgfbchddababArnOps
namespace Go.Proofs.Ytdnhgfbchddabab
open Go.RowKit

theorem RS.only' {w w' : World} {S : Nat → Prop} {A : Option Addr} {c : Nat} {zs : List Nd} (h : RS w A c zs) (hk : Only S w w') (hS : zs ≠ [] → ∀ b off, A = some ⟨b, off, none⟩ → ¬ S b) : RS w' A c zs := by
  rcases zs with _ | ⟨z, zs⟩
  · exact ⟨fun i z hz => by simp at hz, h.2⟩
  · exact h.only hk (hS (by simp))
/-- The document's arena lies in block bx, and its row at A; the arena is another, in block W0.heap.size. -/
structure PS (W0 : World) (bx lim n : Nat) (xs ys : List Nd) (A : Option Addr) (c : Nat) (X : Nat → Prop) (w : World) : Prop where
  box : RBox w bx A n c lim
  rs : RS w A c xs
  len : xs.length = n
  my : My W0 W0.heap.size lim ys (fun j => j = bx ∨ (xs ≠ [] ∧ ∃ off, A = some ⟨j, off, none⟩) ∨ X j) w
  le : W0.heap.size ≤ bx
  ne : xs ≠ [] → ∀ off, A ≠ some ⟨bx, off, none⟩
section
variable {W0 w w' : World} {bx lim n : Nat} {xs ys : List Nd} {A : Option Addr} {c : Nat} {X : Nat → Prop}
theorem PS.keep (h : PS W0 bx lim n xs ys A c X w) (hk : Keep w w') : PS W0 bx lim n xs ys A c (fun j => X j ∨ (w.heap.size ≤ j ∧ j < w'.heap.size)) w' :=
  ⟨h.box.block (hk.block _ h.box.lt), h.rs.keep hk, h.len, (h.my.keep hk).mono (fun j hj => by
    rcases hj with hj | hj | hj | hj
    · exact .inl (.inl hj)
    · exact .inl (.inr (.inl hj))
    · exact .inl (.inr (.inr hj))
    · exact .inr hj), h.le, h.ne⟩
theorem PS.kept (h : PS W0 bx lim n xs ys A c X w) (hk : Keep w w') : PS W0 bx lim n xs ys A c X w' :=
  ⟨h.box.block (hk.block _ h.box.lt), h.rs.keep hk, h.len, h.my.kept hk, h.le, h.ne⟩
theorem PS.mono {X' : Nat → Prop} (h : PS W0 bx lim n xs ys A c X w) (hX : ∀ j, X' j → X j) : PS W0 bx lim n xs ys A c X' w :=
  ⟨h.box, h.rs, h.len, h.my.mono (fun j hj => by
    rcases hj with hj | hj | hj
    · exact .inl hj
    · exact .inr (.inl hj)
    · exact .inr (.inr (hX j hj))), h.le, h.ne⟩
theorem PS.keepW (h : PS W0 bx lim n xs ys A c X w) : Keep W0 w := h.my.keepW
theorem PS.turned {ys' : List Nd} (h : PS W0 bx lim n xs ys A c X w) (hm : My W0 W0.heap.size lim ys' (fun j => j = bx ∨ (xs ≠ [] ∧ ∃ off, A = some ⟨j, off, none⟩) ∨ X j) w')
    (ho : Only (fun k => ¬ (k = bx ∨ (xs ≠ [] ∧ ∃ off, A = some ⟨k, off, none⟩) ∨ X k)) w w') : PS W0 bx lim n xs ys' A c X w' ∧ Only (fun j => ¬ X j) w w' :=
  ⟨⟨h.box.block (ho.block bx h.box.lt (fun hn => hn (.inl rfl))), h.rs.only' ho (fun hx _ off e hn => hn (.inr (.inl ⟨hx, off, e⟩))), h.len, hm, h.le, h.ne⟩, ho.mono (fun _ _ hn hX => hn (.inr (.inr hX)))⟩
theorem ps_alloc (m : Nat) (h : PS W0 bx lim n xs ys A c X w) (hl : ys.length = m) (hf : m < lim) :
    Calls Try.prog 10 #[.pointer (some ⟨W0.heap.size, 0, none⟩)] w fun e w' => e = .returned (.tuple #[.int .i32 ((m : Int) + 1), .int .i64 0]) ∧ PS W0 bx lim n xs (ys ++ [Nd.zero]) A c X w' ∧ Only (fun j => ¬ X j) w w' :=
  (k_alloc m hl h.my hf).mono fun _ _ ⟨he, hm, ho⟩ => ⟨he, h.turned hm ho⟩
theorem ps_set (j : Nat) (z : Nd) (h : PS W0 bx lim n xs ys A c X w) (hj : j < ys.length) :
    Calls Try.prog 12 #[.pointer (some ⟨W0.heap.size, 0, none⟩), .int .i32 ((j : Int) + 1), .agg #[.int .i32 z.l, .int .i32 z.r, .int .i64 z.c, .int .i64 z.s, .int .i64 z.mn, .int .i64 z.mx, .bool z.k]] w fun e w' => e = .returned (.int .i64 0) ∧ PS W0 bx lim n xs (ys.set j z) A c X w' ∧ Only (fun j => ¬ X j) w w' :=
  (my_set j z h.my hj).mono fun _ _ ⟨he, hm, ho⟩ => ⟨he, h.turned hm ho⟩
/-- A row that the document's functions answer: new, or the one that there was. -/
def Fr (w w' : World) (xs : List Nd) (A A' : Option Addr) (c' : Nat) (xs' : List Nd) : Prop :=
  RS w' A' c' xs' ∧ Keep w w' ∧ (xs' ≠ [] → ∀ b off, A' = some ⟨b, off, none⟩ → w.heap.size ≤ b ∨ (xs ≠ [] ∧ ∃ off', A = some ⟨b, off', none⟩))
theorem ps_ralloc (h : PS W0 bx lim n xs ys A c X w) (hf : n < lim) (ht : lim ≤ 4194304) :
    Calls Try.prog 11 #[.agg #[.slice A n c, .int .i64 lim]] w fun e w' => ∃ A' c', e = .returned (.tuple #[.agg #[.slice A' (n + 1) c', .int .i64 lim], .int .i32 ((n : Int) + 1), .int .i64 0]) ∧ Fr w w' xs A A' c' (xs ++ [Nd.zero]) := by
  have hl := h.len
  subst hl
  refine (ralloc_yes A c lim xs w h.rs hf ht).mono ?_
  rintro e w' ⟨A', c', rfl, h1, h2, h3⟩
  exact ⟨A', c', by simp, h1, h2, fun _ b off e => .inl (h3 b off e)⟩
theorem ps_rfull (h : PS W0 bx lim n xs ys A c X w) (hf : n = lim) :
    Calls Try.prog 11 #[.agg #[.slice A n c, .int .i64 lim]] w fun e w' => e = .returned (.tuple #[.agg #[.slice A n c, .int .i64 lim], .int .i32 0, .int .i64 6]) ∧ Fr w w' xs A A c xs := by
  have hl := h.len
  subst hl
  exact (ralloc_no A c lim xs w hf).mono fun _ _ ⟨he, hk⟩ => ⟨he, h.rs.keep hk, hk, fun hx b off e => .inr ⟨hx, off, e⟩⟩
theorem ps_rset (j : Nat) (z : Nd) (h : PS W0 bx lim n xs ys A c X w) (hj : j < n) (ht : n ≤ 4194304) :
    Calls Try.prog 13 #[.agg #[.slice A n c, .int .i64 lim], .int .i32 ((j : Int) + 1), .agg #[.int .i32 z.l, .int .i32 z.r, .int .i64 z.c, .int .i64 z.s, .int .i64 z.mn, .int .i64 z.mx, .bool z.k]] w fun e w' => ∃ A' c', e = .returned (.tuple #[.agg #[.slice A' n c', .int .i64 lim], .int .i64 0]) ∧ Fr w w' xs A A' c' (xs.set j z) := by
  have hl := h.len
  subst hl
  refine (rset_yes j A c lim xs z w h.rs hj ht).mono ?_
  rintro e w' ⟨A', c', rfl, h1, h2, h3⟩
  exact ⟨A', c', by simp, h1, h2, fun _ b off e => .inl (h3 b off e)⟩
theorem ps_rsetno (i : Int) (z : Nd) (h : PS W0 bx lim n xs ys A c X w) (hi : -2147483648 ≤ i ∧ i ≤ 2147483647) (hn : ¬ (1 ≤ i ∧ i ≤ (n : Int))) :
    Calls Try.prog 13 #[.agg #[.slice A n c, .int .i64 lim], .int .i32 i, .agg #[.int .i32 z.l, .int .i32 z.r, .int .i64 z.c, .int .i64 z.s, .int .i64 z.mn, .int .i64 z.mx, .bool z.k]] w fun e w' => e = .returned (.tuple #[.agg #[.slice A n c, .int .i64 lim], .int .i64 4]) ∧ Fr w w' xs A A c xs := by
  have hl := h.len
  subst hl
  exact (rset_no i A c lim xs z w hi hn).mono fun _ _ ⟨he, hk⟩ => ⟨he, h.rs.keep hk, hk, fun hx b off e => .inr ⟨hx, off, e⟩⟩
theorem ps_rhas (i : Int) (v : Bool) (h : PS W0 bx lim n xs ys A c X w) (hi : -2147483648 ≤ i ∧ i ≤ 2147483647) (hv : decide (1 ≤ i ∧ i ≤ (n : Int)) = v) :
    Calls Try.prog 15 #[.agg #[.slice A n c, .int .i64 lim], .int .i32 i] w fun e w' => e = .returned (.bool v) ∧ Keep w w' := by
  have hl := h.len
  subst hl
  exact rhas_is i v A c lim xs w hv hi
/-- The document's new arena is stored where the old one was. -/
theorem PS.stored {n' : Nat} {xs' : List Nd} {A' : Option Addr} {c' : Nat} (h : PS W0 bx lim n xs ys A c X w) (hF : Fr w w' xs A A' c' xs') (hl' : xs'.length = n') :
    PS W0 bx lim n' xs' ys A' c' X (((w'.setCell ⟨bx, 0, none⟩ (.slice A' n' c')).setCell ⟨bx, 1, none⟩ (.int .i64 lim)).alloc (.cells #[.slice A' n' c', .int .i64 lim] 30)) := by
  obtain ⟨hR, hk, hfr⟩ := hF
  have hbl := h.box.lt
  have hb1 := h.box.block (hk.block _ hbl)
  have hO : Only (fun j => j = bx) w' ((w'.setCell ⟨bx, 0, none⟩ (.slice A' n' c')).setCell ⟨bx, 1, none⟩ (.int .i64 lim)) :=
    ((Only.refl (fun j => j = bx) _).setCell ⟨bx, 0, none⟩ _ rfl).setCell ⟨bx, 1, none⟩ _ rfl
  have hM := ((h.my.keep hk).only hO (fun k e => ⟨.inl (.inl e), by have := h.le; omega⟩)).kept ((Keep.refl _).alloc (.cells #[.slice A' n' c', .int .i64 lim] 30))
  have hne : xs' ≠ [] → ∀ b off, A' = some ⟨b, off, none⟩ → b ≠ bx := fun hx b off e hb => by
    subst hb
    rcases hfr hx b off e with h1 | ⟨h1, off', e'⟩
    · omega
    · exact h.ne h1 off' e'
  refine ⟨(hb1.store A' n' c' lim).alloc _, (hR.only' hO (fun hx b off e hb => hne hx b off e hb)).keep ((Keep.refl _).alloc _), hl', hM.mono (fun j hj => ?_), h.le, fun hx off e => hne hx bx off e rfl⟩
  rcases hj with hj | ⟨hx, off, e⟩ | hj
  · exact .inl (.inl hj)
  · rcases hfr hx j off e with h1 | h1
    · refine .inr ⟨h1, ?_⟩
      obtain ⟨z, zs, rfl⟩ : ∃ z zs, xs' = z :: zs := by
        rcases xs' with _ | ⟨z, zs⟩
        · exact absurd rfl hx
        · exact ⟨z, zs, rfl⟩
      obtain ⟨b2, o2, e2, h2, _⟩ := hR.1 0 z rfl
      rw [e] at e2
      cases e2
      exact h2
    · exact .inl (.inr (.inl h1))
  · exact .inl (.inr (.inr hj))
end
/-- A step in a block of its own. -/
def OpB (w : World) (p : Nat) (o : OpV) : Prop := w.heap[p]? = some (.cells #[.int .i64 o.kind, .int .i32 o.i, .int .i32 o.n.l, .int .i32 o.n.r, .int .i64 o.n.c, .int .i64 o.n.s, .int .i64 o.n.mn, .int .i64 o.n.mx, .bool o.n.k] 36 (0, 0))
theorem OpB.new (w : World) (o : OpV) : OpB (w.alloc (.cells #[.int .i64 o.kind, .int .i32 o.i, .int .i32 o.n.l, .int .i32 o.n.r, .int .i64 o.n.c, .int .i64 o.n.s, .int .i64 o.n.mn, .int .i64 o.n.mx, .bool o.n.k] 36)) w.heap.size o := World.alloc_heap_new _ _
theorem OpB.lt {w : World} {p : Nat} {o : OpV} (h : OpB w p o) : p < w.heap.size := (Array.getElem?_eq_some_iff.1 h).1
theorem OpB.keep {w w' : World} {p : Nat} {o : OpV} (h : OpB w p o) (hk : Keep w w') : OpB w' p o := (hk.block p h.lt).trans h
theorem OpB.only {w w' : World} {S : Nat → Prop} {p : Nat} {o : OpV} (h : OpB w p o) (hk : Only S w w') (hS : ¬ S p) : OpB w' p o := (hk.block p h.lt hS).trans h
theorem OpB.cells {w : World} {p : Nat} {o : OpV} (h : OpB w p o) : w.cell? ⟨p, 0, none⟩ = some (.int .i64 o.kind) ∧ w.cell? ⟨p, 1, none⟩ = some (.int .i32 o.i) ∧ w.cell? ⟨p, 2, none⟩ = some (.int .i32 o.n.l) ∧ w.cell? ⟨p, 3, none⟩ = some (.int .i32 o.n.r) ∧ w.cell? ⟨p, 4, none⟩ = some (.int .i64 o.n.c) ∧ w.cell? ⟨p, 5, none⟩ = some (.int .i64 o.n.s) ∧ w.cell? ⟨p, 6, none⟩ = some (.int .i64 o.n.mn) ∧ w.cell? ⟨p, 7, none⟩ = some (.int .i64 o.n.mx) ∧ w.cell? ⟨p, 8, none⟩ = some (.bool o.n.k) := by
  unfold OpB at h
  simp [World.cell?, h]
end Go.Proofs.Ytdnhgfbchddabab
