/- A row of one's own of numbers. -/
import Derived.Test.YthfiepgonjfapaaProg
import Derived.Test.YthfiepgonjfapaaMem
import Derived.ProofKit
namespace Go.Proofs.Ythfiepgonjfapaa
open Go.RowKit

theorem infoI64 : (Try.prog.info? 2).map (fun i => (i.zero, i.size, i.bytes)) = some (some (.int .i64 0), 1, 8) := by kernel_rfl
theorem one_lies (w : World) (x : Value) (t : TypeId) : Lies (w.alloc (.cells #[x] t)) (w.alloc (.cells #[x] t)).heap.size (some ⟨w.heap.size, 0, none⟩) 1 [x] := by
  have h : (w.alloc (.cells #[x] t)).heap[w.heap.size]? = some (.cells #[x] t (0, 0)) := World.alloc_heap_new _ _
  have hlt : w.heap.size < (w.alloc (.cells #[x] t)).heap.size := by simp
  generalize w.alloc (.cells #[x] t) = W at *
  refine ⟨rfl, fun _ => ⟨w.heap.size, 0, rfl, hlt, fun k hk => ?_⟩⟩
  obtain rfl : k = 0 := by omega
  simp [World.cell?, h]
/-- A row of one's own of numbers. -/
structure OwnL (base : Nat) (w0 w : World) (A : Option Addr) (n c : Nat) (xs : List Int) : Prop where
  row : w.ownsRow base 2 1 (.slice A n c) n (vals .i64 xs)
  keep : Keep w0 w
theorem OwnL.lies {base : Nat} {w0 w : World} {A : Option Addr} {n c : Nat} {xs : List Int} (h : OwnL base w0 w A n c xs) : Lies w w.heap.size A n (vals .i64 xs) := by
  obtain ⟨A', c', e, hl⟩ := Lies.of_row h.row
  cases e
  exact hl
theorem OwnL.up {base : Nat} {w0 w w' : World} {A : Option Addr} {n c : Nat} {xs : List Int} (h : OwnL base w0 w A n c xs) (hk : Keep w w') : OwnL base w0 w' A n c xs :=
  ⟨ownsRow_only h.row (Only.of_keep (fun _ => False) hk) (fun _ _ h => h), h.keep.trans hk⟩
theorem OwnL.new (w0 : World) : OwnL w0.heap.size w0 (w0.alloc (.cells #[] 2)) (some ⟨w0.heap.size, 0, none⟩) 0 0 [] :=
  ⟨World.ownsRow_made w0 #[] 0 (Nat.le_refl _) (by simp) rfl, (Keep.refl w0).alloc _⟩
theorem OwnL.grown {w0 w w' : World} {A A' : Option Addr} {n c c' : Nat} {xs : List Int} {v : Int} (h : OwnL w0.heap.size w0 w A n c xs) (o : Obj)
    (hr : w'.ownsRow w0.heap.size 2 1 (.slice A' (n + 1) c') (n + 1) (vals .i64 xs ++ [.int .i64 v])) (hg : (w.alloc o).grownBy w' (Value.slice A n c).ownBlock) : OwnL w0.heap.size w0 w' A' (n + 1) c' (xs ++ [v]) :=
  ⟨by rw [vals_append]; exact hr, Only.keep (h.keep.alloc o) ((Only.refl (fun q => (Value.slice A n c).ownBlock = some q) _).grown hg (fun q _ e => e)) (fun q e => (h.row.lt q e).1)⟩
end Go.Proofs.Ythfiepgonjfapaa
