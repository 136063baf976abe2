/- Rows of rows of bytes; the frames that bytes begin with. -/
import Derived.Test.YtjhakgnjodocpaaFrmCut
namespace Go.Proofs.Ytjhakgnjodocpaa
open Go.RowKit

/-- A row of slices, in a box g: v holds the values vs. -/
def Rws (w : World) (g base : Nat) (v : Value) (vs : List Value) : Prop := Boxed w g 29 v ∧ w.ownsRow base 22 1 v vs.length vs
/-- Each value is a row of bytes of its own: those of yss. -/
def Bod (w : World) (base : Nat) (vs : List Value) (yss : List (List Int)) : Prop :=
  vs.length = yss.length ∧ ∀ (i : Nat) (v : Value) (ys : List Int), vs[i]? = some v → yss[i]? = some ys → w.ownsRow base 5 1 v ys.length (vals .u8 ys)
/-- What an append to the row may turn: the box, and blocks of slices. -/
def OfRws (w : World) (g base : Nat) (q : Nat) : Prop := q = g ∨ (base ≤ q ∧ ∃ cs fr, w.heap[q]? = some (.cells cs 22 fr))

theorem row_type {w : World} {base : Nat} {e : TypeId} {size : Nat} {v : Value} {n : Nat} {xs : List Value} (h : w.ownsRow base e size v n xs) (q : Nat) (hq : v.ownBlock = some q) : ∃ cs, w.heap[q]? = some (.cells cs e (0, 0)) := by
  rcases h.2 with ⟨rfl, _⟩ | ⟨g, cap, cur, rfl, _, hg, _⟩
  · cases hq
  · obtain rfl : g = q := by simpa [Value.ownBlock] using hq
    exact ⟨cur, hg⟩
theorem bytes_far {w : World} {g base : Nat} {u v : Value} {n : Nat} {xs : List Value} (hb : Boxed w g 29 u) (h : w.ownsRow base 5 1 v n xs) (q : Nat) (hq : v.ownBlock = some q) (base' : Nat) : ¬ OfRws w g base' q := by
  obtain ⟨cs, hc⟩ := row_type h q hq
  rintro (rfl | ⟨_, cs', fr, hc'⟩)
  · have : w.heap[q]? = _ := hb
    rw [hc] at this
    injection this with this
    injection this with _ this
    cases this
  · rw [hc] at hc'
    injection hc' with this
    injection this with _ this
    cases this
theorem Bod.only {w w' : World} {S : Nat → Prop} {base : Nat} {vs : List Value} {yss : List (List Int)} (h : Bod w base vs yss) (ho : Only S w w') (hS : ∀ (v : Value) (n : Nat) (xs : List Value) (q : Nat), w.ownsRow base 5 1 v n xs → v.ownBlock = some q → ¬ S q) : Bod w' base vs yss :=
  ⟨h.1, fun i v ys h1 h2 => ownsRow_only (h.2 i v ys h1 h2) ho (fun q hq => hS v _ _ q (h.2 i v ys h1 h2) hq)⟩
theorem Bod.keep {w w' : World} {base : Nat} {vs : List Value} {yss : List (List Int)} (h : Bod w base vs yss) (hk : Keep w w') : Bod w' base vs yss := h.only (Only.of_keep (fun _ => False) hk) (fun _ _ _ _ _ _ h => h)
theorem Bod.le {w : World} {base base' : Nat} {vs : List Value} {yss : List (List Int)} (h : Bod w base vs yss) (hb : base' ≤ base) : Bod w base' vs yss :=
  ⟨h.1, fun i v ys h1 h2 => ownsRow_le (h.2 i v ys h1 h2) hb⟩
theorem Bod.nil (w : World) (base : Nat) : Bod w base [] [] := ⟨rfl, fun i v ys h => by cases h⟩
theorem Bod.snoc {w : World} {base : Nat} {vs : List Value} {yss : List (List Int)} {v : Value} {ys : List Int} (h : Bod w base vs yss) (hv : w.ownsRow base 5 1 v ys.length (vals .u8 ys)) : Bod w base (vs ++ [v]) (yss ++ [ys]) := by
  refine ⟨by simp [h.1], fun i u zs h1 h2 => ?_⟩
  rcases Nat.lt_or_ge i vs.length with hi | hi
  · rw [List.getElem?_append_left hi] at h1
    rw [List.getElem?_append_left (by rw [← h.1]; exact hi)] at h2
    exact h.2 i u zs h1 h2
  · have hi2 : i = vs.length := by
      have := (List.getElem?_eq_some_iff.1 h1).1
      simp at this
      omega
    subst hi2
    rw [List.getElem?_concat_length] at h1
    rw [h.1, List.getElem?_concat_length] at h2
    cases h1
    cases h2
    exact hv
theorem Rws.keep {w w' : World} {g base : Nat} {v : Value} {vs : List Value} (h : Rws w g base v vs) (hk : Keep w w') : Rws w' g base v vs := ⟨(hk.block g h.1.lt).trans h.1, row_keep h.2 hk⟩

/-- The frames that bytes begin with, what is left, the error: as far as f frames. -/
def frs : Nat → List Int → List (List Int) × List Int × Int
  | 0, xs => ([], xs, 0)
  | f + 1, xs => if cutE xs = 0 then (((xs.drop 2).take (hd xs)) :: (frs f (xs.drop (2 + hd xs))).1, (frs f (xs.drop (2 + hd xs))).2) else if cutE xs = 20 then ([], xs, 0) else ([], xs, cutE xs)
theorem cutE_pos {xs : List Int} (h : cutE xs = 0) : 2 ≤ xs.length := by
  rcases cutE_eq xs with ⟨_, h2⟩ | ⟨h1, _⟩
  · rw [h2] at h; cases h
  · exact h1
/-- More fuel than bytes makes no difference. -/
theorem frs_fuel : ∀ (f f' : Nat) (xs : List Int), xs.length < f → xs.length < f' → frs f xs = frs f' xs
  | 0, _, _, h, _ => by omega
  | _ + 1, 0, _, _, h => by omega
  | f + 1, f' + 1, xs, h, h' => by
    unfold frs
    by_cases hc : cutE xs = 0
    · have := cutE_pos hc
      rw [if_pos hc, if_pos hc, frs_fuel f f' (xs.drop (2 + hd xs)) (by simp; omega) (by simp; omega)]
    · rw [if_neg hc, if_neg hc]
/-- All of it. -/
def spl (xs : List Int) : List (List Int) × List Int × Int := frs (xs.length + 1) xs
theorem spl_yes {xs : List Int} (h : cutE xs = 0) : spl xs = (((xs.drop 2).take (hd xs)) :: (spl (xs.drop (2 + hd xs))).1, (spl (xs.drop (2 + hd xs))).2) := by
  have h2 := cutE_pos h
  have e : spl xs = (((xs.drop 2).take (hd xs)) :: (frs xs.length (xs.drop (2 + hd xs))).1, (frs xs.length (xs.drop (2 + hd xs))).2) := by
    unfold spl
    rw [frs, if_pos h]
  rw [e, frs_fuel xs.length ((xs.drop (2 + hd xs)).length + 1) (xs.drop (2 + hd xs)) (by simp; omega) (by omega)]
  rfl
theorem spl_short {xs : List Int} (h : cutE xs = 20) : spl xs = ([], xs, 0) := by
  unfold spl
  rw [frs, if_neg (by rw [h]; decide), if_pos h]
theorem spl_long {xs : List Int} (h : cutE xs = 2) : spl xs = ([], xs, 2) := by
  unfold spl
  rw [frs, if_neg (by rw [h]; decide), if_neg (by rw [h]; decide), h]
theorem cutE_three (xs : List Int) : cutE xs = 0 ∨ cutE xs = 20 ∨ cutE xs = 2 := by
  rcases cutE_eq xs with ⟨_, h⟩ | ⟨_, ⟨_, h⟩ | ⟨_, _, h⟩ | ⟨_, _, h⟩⟩
  · exact .inr (.inl h)
  · exact .inr (.inr h)
  · exact .inr (.inl h)
  · exact .inl h
theorem spl_count : ∀ (n : Nat) (xs : List Int), xs.length ≤ n → (spl xs).1.length ≤ xs.length ∧ (spl xs).2.1.length ≤ xs.length
  | 0, xs, h => by
    have : cutE xs = 20 := by unfold cutE; rw [if_pos (by omega)]
    rw [spl_short this]
    simp
  | n + 1, xs, h => by
    rcases cutE_three xs with hc | hc | hc
    · have h2 := cutE_pos hc
      have ih := spl_count n (xs.drop (2 + hd xs)) (by simp; omega)
      rw [spl_yes hc]
      simp at ih ⊢
      omega
    · rw [spl_short hc]; simp
    · rw [spl_long hc]; simp
end Go.Proofs.Ytjhakgnjodocpaa
