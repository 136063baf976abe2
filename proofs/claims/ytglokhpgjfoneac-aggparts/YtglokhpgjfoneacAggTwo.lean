/- Two rows of one's own that share no block; values that are all more by as much. -/
import Derived.Test.YtglokhpgjfoneacAggSmall
namespace Go.Proofs.Ytglokhpgjfoneac
open Go.RowKit

structure TwoL (w0 w : World) (A : Option Addr) (n c : Nat) (xs : List Int) (B : Option Addr) (m d : Nat) (ys : List Int) : Prop where
  ra : w.ownsRow w0.heap.size 2 1 (.slice A n c) n (vals .i64 xs)
  rb : w.ownsRow w0.heap.size 2 1 (.slice B m d) m (vals .i64 ys)
  ne : ∀ g, (Value.slice A n c).ownBlock = some g → (Value.slice B m d).ownBlock = some g → False
  keep : Keep w0 w
theorem TwoL.swap {w0 w : World} {A : Option Addr} {n c : Nat} {xs : List Int} {B : Option Addr} {m d : Nat} {ys : List Int} (h : TwoL w0 w A n c xs B m d ys) : TwoL w0 w B m d ys A n c xs := ⟨h.rb, h.ra, fun g h1 h2 => h.ne g h2 h1, h.keep⟩
theorem TwoL.up {w0 w w' : World} {A : Option Addr} {n c : Nat} {xs : List Int} {B : Option Addr} {m d : Nat} {ys : List Int} (h : TwoL w0 w A n c xs B m d ys) (hk : Keep w w') : TwoL w0 w' A n c xs B m d ys :=
  ⟨ownsRow_only h.ra (Only.of_keep (fun _ => False) hk) (fun _ _ h => h), ownsRow_only h.rb (Only.of_keep (fun _ => False) hk) (fun _ _ h => h), h.ne, h.keep.trans hk⟩
theorem TwoL.lies {w0 w : World} {A : Option Addr} {n c : Nat} {xs : List Int} {B : Option Addr} {m d : Nat} {ys : List Int} (h : TwoL w0 w A n c xs B m d ys) : Lies w w.heap.size A n (vals .i64 xs) := by
  obtain ⟨A', c', e, hl⟩ := Lies.of_row h.ra
  cases e
  exact hl
theorem TwoL.new (w0 : World) : TwoL w0 ((w0.alloc (.cells #[] 2)).alloc (.cells #[] 2)) (some ⟨w0.heap.size, 0, none⟩) 0 0 [] (some ⟨w0.heap.size + 1, 0, none⟩) 0 0 [] := by
  have h2 := World.ownsRow_made (base := w0.heap.size) (e := 2) (size := 1) (w0.alloc (.cells #[] 2)) #[] 0 (by simp) (by simp) rfl
  rw [show (w0.alloc (.cells #[] 2)).heap.size = w0.heap.size + 1 by simp] at h2
  refine ⟨(World.ownsRow_made w0 #[] 0 (Nat.le_refl _) (by simp) rfl).alloc _, h2, fun g h1 h3 => ?_, ((Keep.refl w0).alloc _).alloc _⟩
  simp [Value.ownBlock] at h1 h3
  omega
theorem TwoL.grown {w0 w w' : World} {A A' : Option Addr} {n c c' : Nat} {xs : List Int} {B : Option Addr} {m d : Nat} {ys : List Int} {v : Int} (h : TwoL w0 w A n c xs B m d ys) (o : Obj)
    (hr : w'.ownsRow w0.heap.size 2 1 (.slice A' (n + 1) c') (n + 1) (vals .i64 xs ++ [.int .i64 v])) (hg : (w.alloc o).grownBy w' (Value.slice A n c).ownBlock)
    (hb : (Value.slice A' (n + 1) c').ownBlock = (Value.slice A n c).ownBlock ∨ (Value.slice A' (n + 1) c').ownBlock = some (w.alloc o).heap.size) : TwoL w0 w' A' (n + 1) c' (xs ++ [v]) B m d ys := by
  have ho := (Only.refl (fun q => (Value.slice A n c).ownBlock = some q) (w.alloc o)).grown hg (fun q _ e => e)
  refine ⟨by rw [vals_append]; exact hr, ownsRow_only (h.rb.alloc o) ho (fun g hg2 hs => h.ne g hs hg2), fun g h1 h2 => ?_, Only.keep (h.keep.alloc o) ho (fun q e => (h.ra.lt q e).1)⟩
  rcases hb with hb | hb
  · exact h.ne g (hb ▸ h1) h2
  · rw [hb] at h1
    have := (h.rb.lt g h2).2
    have e : (w.alloc o).heap.size = g := by simpa using h1
    simp at e
    omega

/-! Values that are all more by as much. -/
def sft (d : Int) (xs : List Int) : List Int := xs.map fun x => x + d
theorem sft_len (d : Int) (xs : List Int) : (sft d xs).length = xs.length := by simp [sft]
theorem sft_take {d : Int} {xs : List Int} {j : Nat} {x : Int} (h : xs[j]? = some x) : (sft d xs).take j ++ [x + d] = (sft d xs).take (j + 1) := by
  have h2 : (sft d xs)[j]? = some (x + d) := by simp [sft, h]
  rw [take_succ h2]
theorem sm_sft (d : Int) (xs : List Int) : sm (sft d xs) = sm xs + d * xs.length := by
  induction xs with
  | nil => simp [sft, sm]
  | cons x xs ih =>
    have e : sft d (x :: xs) = (x + d) :: sft d xs := rfl
    rw [e, sm, ih, sm, List.length_cons]
    rw [show ((xs.length + 1 : Nat) : Int) = (xs.length : Int) + 1 by omega, Int.mul_add]
    omega
theorem sm_bd {M : Int} (xs : List Int) (h : ∀ z ∈ xs, -M ≤ z ∧ z ≤ M) : -(M * xs.length) ≤ sm xs ∧ sm xs ≤ M * xs.length := by
  induction xs with
  | nil => simp [sm]
  | cons x xs ih =>
    have h1 := ih (fun z hz => h z (by simp [hz]))
    have h2 := h x (by simp)
    rw [sm, List.length_cons, show ((xs.length + 1 : Nat) : Int) = (xs.length : Int) + 1 by omega, Int.mul_add]
    omega
theorem IsOf.sft {xs : List Int} {a : Ag} (h : IsOf xs a) (d : Int) (hne : xs ≠ []) (hs : wrap64 (sm xs) = sm xs) : IsOf (sft d xs) ⟨a.c, wrap64 (a.s + d * xs.length), a.mn + d, a.mx + d⟩ := by
  refine ⟨by rw [sft_len]; exact h.c, ?_, fun e => ?_, fun _ => ?_, fun z hz => ?_, fun _ => ?_, fun z hz => ?_⟩
  · show wrap64 (a.s + d * xs.length) = _
    rw [sm_sft, h.s, hs]
  · exact (hne (List.map_eq_nil_iff.1 e)).elim
  · exact List.mem_map.2 ⟨_, h.mn hne, rfl⟩
  · obtain ⟨x, hx, rfl⟩ := List.mem_map.1 hz
    have := h.lo x hx
    show a.mn + d ≤ x + d
    omega
  · exact List.mem_map.2 ⟨_, h.mx hne, rfl⟩
  · obtain ⟨x, hx, rfl⟩ := List.mem_map.1 hz
    have := h.hi x hx
    show x + d ≤ a.mx + d
    omega
end Go.Proofs.Ytglokhpgjfoneac
