/- A slice of integers that came in: what a walk is told of it. -/
import Derived.Test.YthfiepgonjfapaaMem
import Derived.ProofKit
namespace Go.Proofs.Ythfiepgonjfapaa
open Go.RowKit

/-- The slice at a of length len holds the numbers zs of kind k. -/
def Arr (k : IntKind) (w : World) (a : Option Addr) (len : Nat) (zs : List Int) : Prop :=
  len ≤ maxLen ∧ Lies w w.heap.size a len (vals k zs) ∧ ∀ z ∈ zs, (Lit.int k z).wf = true
theorem arr_none (k : IntKind) (w : World) (a : Option Addr) : Arr k w a 0 [] := ⟨Nat.zero_le _, ⟨rfl, fun h => by omega⟩, by simp⟩
theorem arr_some {k : IntKind} {w : World} {x : Addr} {len cap : Nat} {zs : List Int} (hl : len ≤ cap) (hm : cap ≤ maxLen) (hz : zs.length = cap)
    (hcell : ∀ i, i < zs.length → w.cell? (x.add i) = some (.int k (zs.getD i 0))) (hwz : ∀ n ∈ zs, (Lit.int k n).wf = true) : Arr k w (some x) len (zs.take len) := by
  refine ⟨by omega, ⟨by simp [vals]; omega, fun hn => ?_⟩, fun z hz' => hwz z (List.mem_of_mem_take hz')⟩
  obtain ⟨b, off, spot⟩ := x
  have hc := hcell 0 (by omega)
  have hspot : spot = none := by simpa [Addr.add] using World.cell?_spot hc
  subst hspot
  refine ⟨b, off, rfl, ?_, fun i hi => ?_⟩
  · exact World.block_lt_of_cell? w ⟨b, off, none⟩ (by simpa [Addr.add] using hc)
  · have h1 := hcell i (by omega)
    have e : (⟨b, off, none⟩ : Addr).add i = ⟨b, off + i, none⟩ := by unfold Addr.add; split <;> simp_all
    rw [e] at h1
    rw [h1]
    have hlt : i < (zs.take len).length := by simp; omega
    simp [vals, List.getD_eq_getElem?_getD, hi, show i < zs.length by omega]
end Go.Proofs.Ythfiepgonjfapaa
