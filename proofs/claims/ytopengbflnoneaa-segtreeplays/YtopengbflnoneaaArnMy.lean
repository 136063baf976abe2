/- An arena of the caller's own: what each call does to it, and leaves. -/
import Derived.Test.YtopengbflnoneaaArnFn
namespace Go.Proofs.Ytopengbflnoneaa
open Go.RowKit

/-- The arena in block b is made since w0; blocks of Pr are others, and lie. -/
def My (w0 : World) (b lim : Nat) (xs : List Nd) (Pr : Nat → Prop) (w : World) : Prop :=
  ∃ (A : Option Addr) (c : Nat), Ar w b lim A c xs ∧ Keep w0 w ∧ w0.heap.size ≤ b ∧ ∀ k, Pr k → k < w.heap.size ∧ k ≠ b ∧ (Value.slice A xs.length c).ownBlock ≠ some k
theorem My.keepW {w0 w : World} {b lim : Nat} {xs : List Nd} {Pr : Nat → Prop} (h : My w0 b lim xs Pr w) : Keep w0 w := by obtain ⟨A, c, h1, h2, h3, h4⟩ := h; exact h2
theorem My.lt {w0 w : World} {b lim : Nat} {xs : List Nd} {Pr : Nat → Prop} (h : My w0 b lim xs Pr w) (k : Nat) (hk : Pr k) : k < w.heap.size := by obtain ⟨A, c, h1, h2, h3, h4⟩ := h; exact (h4 k hk).1
theorem My.fits {w0 w : World} {b lim : Nat} {xs : List Nd} {Pr : Nat → Prop} (h : My w0 b lim xs Pr w) : xs.length ≤ lim := by obtain ⟨A, c, h1, h2, h3, h4⟩ := h; exact h1.fits
theorem My.mono {w0 w : World} {b lim : Nat} {xs : List Nd} {Pr Pr' : Nat → Prop} (h : My w0 b lim xs Pr w) (hp : ∀ k, Pr' k → Pr k) : My w0 b lim xs Pr' w := by
  obtain ⟨A, c, h1, h2, h3, h4⟩ := h
  exact ⟨A, c, h1, h2, h3, fun k hk => h4 k (hp k hk)⟩
theorem My.none {w0 w : World} {b lim : Nat} {xs : List Nd} {Pr : Nat → Prop} (h : My w0 b lim xs Pr w) : My w0 b lim xs (fun _ => False) w := h.mono (fun _ h => h.elim)
/-- What is made beside it is protected. -/
theorem My.keep {w0 w w' : World} {b lim : Nat} {xs : List Nd} {Pr : Nat → Prop} (h : My w0 b lim xs Pr w) (hk : Keep w w') : My w0 b lim xs (fun k => Pr k ∨ (w.heap.size ≤ k ∧ k < w'.heap.size)) w' := by
  obtain ⟨A, c, h1, h2, h3, h4⟩ := h
  refine ⟨A, c, h1.keep hk, h2.trans hk, h3, fun k hp => ?_⟩
  rcases hp with hp | ⟨hp1, hp2⟩
  · obtain ⟨q1, q2, q3⟩ := h4 k hp
    exact ⟨Nat.lt_of_lt_of_le q1 hk.size, q2, q3⟩
  · refine ⟨hp2, ?_, fun e => ?_⟩
    · have := h1.lt; omega
    · have := (h1.own.lt k e).2; omega
theorem My.kept {w0 w w' : World} {b lim : Nat} {xs : List Nd} {Pr : Nat → Prop} (h : My w0 b lim xs Pr w) (hk : Keep w w') : My w0 b lim xs Pr w' := (h.keep hk).mono (fun _ h => .inl h)
/-- Stores into what is made since w0 and protected. -/
theorem My.only {w0 w w' : World} {b lim : Nat} {xs : List Nd} {Pr : Nat → Prop} {S : Nat → Prop} (h : My w0 b lim xs Pr w) (ho : Only S w w') (hS : ∀ k, S k → Pr k ∧ w0.heap.size ≤ k) : My w0 b lim xs Pr w' := by
  obtain ⟨A, c, h1, h2, h3, h4⟩ := h
  refine ⟨A, c, h1.only ho (fun s => (h4 b (hS b s).1).2.1 rfl) (fun g e s => (h4 g (hS g s).1).2.2 e), Only.keep h2 ho (fun k s => (hS k s).2), h3, fun k hp => ?_⟩
  obtain ⟨q1, q2, q3⟩ := h4 k hp
  exact ⟨Nat.lt_of_lt_of_le q1 ho.size, q2, q3⟩

theorem my_new (lim : Nat) (w : World) (h1 : 1 ≤ lim) (h2 : lim ≤ 4194304) :
    Calls Try.prog 28 #[.int .i64 lim] w fun e w' => e = .returned (.tuple #[.pointer (some ⟨w.heap.size, 0, none⟩), .int .i64 0]) ∧ My w w.heap.size lim [] (fun _ => False) w' :=
  (new_yes lim w h1 h2).mono fun _ _ ⟨he, hk, _, ha⟩ => ⟨he, none, 0, ha, hk, Nat.le_refl _, fun _ h => h.elim⟩
section
variable {w0 w : World} {b lim : Nat} {xs : List Nd} {Pr : Nat → Prop}
theorem my_len (h : My w0 b lim xs Pr w) :
    Calls Try.prog 36 #[.pointer (some ⟨b, 0, none⟩)] w fun e w' => e = .returned (.int .i64 xs.length) ∧ w = w' := by
  obtain ⟨A, c, h1, _⟩ := h
  exact len_is h1
theorem my_room (h : My w0 b lim xs Pr w) :
    Calls Try.prog 31 #[.pointer (some ⟨b, 0, none⟩)] w fun e w' => e = .returned (.int .i64 ((lim : Int) - (xs.length : Int))) ∧ Keep w w' := by
  obtain ⟨A, c, h1, _⟩ := h
  exact room_is h1
theorem my_full (h : My w0 b lim xs Pr w) (hf : xs.length = lim) :
    Calls Try.prog 48 #[.pointer (some ⟨b, 0, none⟩)] w fun e w' => e = .returned (.tuple #[.int .i32 0, .int .i64 6]) ∧ Keep w w' := by
  obtain ⟨A, c, h1, _⟩ := h
  exact alloc_no h1 hf
theorem my_alloc (h : My w0 b lim xs Pr w) (hf : xs.length < lim) :
    Calls Try.prog 48 #[.pointer (some ⟨b, 0, none⟩)] w fun e w' => e = .returned (.tuple #[.int .i32 ((xs.length : Int) + 1), .int .i64 0]) ∧ My w0 b lim (xs ++ [Nd.zero]) Pr w' ∧ Only (fun k => ¬ Pr k) w w' := by
  obtain ⟨A, c, h1, h2, h3, h4⟩ := h
  refine (alloc_yes h1 hf).mono ?_
  rintro e w' ⟨rfl, A', c', ha, ho, hb⟩
  have hO : Only (fun k => ¬ Pr k) w w' := ho.mono (fun k _ hk hp => by
    obtain ⟨q1, q2, q3⟩ := h4 k hp
    rcases hk with rfl | hk
    · exact q2 rfl
    · exact q3 hk)
  have hl : (xs ++ [Nd.zero]).length = xs.length + 1 := by simp
  refine ⟨rfl, ⟨A', c', ha, Only.keep h2 ho (fun k hk => ?_), h3, fun k hp => ?_⟩, hO⟩
  · rcases hk with rfl | hk
    · exact h3
    · have := (h1.own.lt k hk).1; omega
  · obtain ⟨q1, q2, q3⟩ := h4 k hp
    refine ⟨Nat.lt_of_lt_of_le q1 ho.size, q2, ?_⟩
    rw [hl]
    rcases hb with hb | ⟨k', hk', hb⟩
    · rw [hb]; exact q3
    · rw [hb]
      intro e
      cases e
      omega
theorem my_getno (i : Int) (h : My w0 b lim xs Pr w) (hi : -2147483648 ≤ i ∧ i ≤ 2147483647) (hn : ¬ (1 ≤ i ∧ i ≤ (xs.length : Int))) :
    Calls Try.prog 47 #[.pointer (some ⟨b, 0, none⟩), .int .i32 i] w fun e w' => e = .returned (.tuple #[.agg #[.int .i32 0, .int .i32 0, .int .i64 0, .int .i64 0, .int .i64 0, .int .i64 0, .bool false], .int .i64 4]) ∧ Keep w w' := by
  obtain ⟨A, c, h1, _⟩ := h
  exact get_no i h1 hi hn
theorem my_get (j : Nat) (z : Nd) (h : My w0 b lim xs Pr w) (hj : xs[j]? = some z) :
    Calls Try.prog 47 #[.pointer (some ⟨b, 0, none⟩), .int .i32 ((j : Int) + 1)] w fun e w' => e = .returned (.tuple #[.agg #[.int .i32 z.l, .int .i32 z.r, .int .i64 z.c, .int .i64 z.s, .int .i64 z.mn, .int .i64 z.mx, .bool z.k], .int .i64 0]) ∧ Keep w w' := by
  obtain ⟨A, c, h1, _⟩ := h
  exact get_yes j z h1 hj
theorem my_setno (i : Int) (y : Nd) (h : My w0 b lim xs Pr w) (hi : -2147483648 ≤ i ∧ i ≤ 2147483647) (hn : ¬ (1 ≤ i ∧ i ≤ (xs.length : Int))) :
    Calls Try.prog 50 #[.pointer (some ⟨b, 0, none⟩), .int .i32 i, .agg #[.int .i32 y.l, .int .i32 y.r, .int .i64 y.c, .int .i64 y.s, .int .i64 y.mn, .int .i64 y.mx, .bool y.k]] w fun e w' => e = .returned (.int .i64 4) ∧ Keep w w' := by
  obtain ⟨A, c, h1, _⟩ := h
  exact set_no i y h1 hi hn
theorem my_set (j : Nat) (y : Nd) (h : My w0 b lim xs Pr w) (hj : j < xs.length) :
    Calls Try.prog 50 #[.pointer (some ⟨b, 0, none⟩), .int .i32 ((j : Int) + 1), .agg #[.int .i32 y.l, .int .i32 y.r, .int .i64 y.c, .int .i64 y.s, .int .i64 y.mn, .int .i64 y.mx, .bool y.k]] w fun e w' => e = .returned (.int .i64 0) ∧ My w0 b lim (xs.set j y) Pr w' ∧ Only (fun k => ¬ Pr k) w w' := by
  obtain ⟨A, c, h1, h2, h3, h4⟩ := h
  refine (set_yes j y h1 hj).mono ?_
  rintro e w' ⟨rfl, ha, ho⟩
  have hO : Only (fun k => ¬ Pr k) w w' := ho.mono (fun k _ hk hp => (h4 k hp).2.2 hk)
  refine ⟨rfl, ⟨A, c, ha, Only.keep h2 ho (fun k hk => ?_), h3, fun k hp => ?_⟩, hO⟩
  · have := (h1.own.lt k hk).1; omega
  · obtain ⟨q1, q2, q3⟩ := h4 k hp
    refine ⟨Nat.lt_of_lt_of_le q1 ho.size, q2, ?_⟩
    rw [List.length_set]
    exact q3
end
end Go.Proofs.Ytopengbflnoneaa
