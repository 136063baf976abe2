/- A Bool that tells a proposition. -/
import Derived.Test.YtmdhbbibghpijaaDoorAreaArg
namespace Go.Proofs.YtmdhbbibghpijaaDoor
open Go.RowKit
/-- A Bool that tells a proposition. -/
structure Tells (v : Bool) (P : Prop) : Prop where
  iff : v = true ↔ P
theorem tells_is (P : Prop) : ∃ v : Bool, Tells v P := by
  by_cases h : P
  · exact ⟨true, ⟨by simp [h]⟩⟩
  · exact ⟨false, ⟨by simp [h]⟩⟩
theorem keep_grownA {w w1 w2 : World} {e : TypeId} {size : Nat} {v : Value} {n : Nat} {xs : List Value} (hk : Keep w w1) (ho : w1.ownsRow w.heap.size e size v n xs) (hg : w1.grownBy w2 v.ownBlock) : Keep w w2 :=
  Only.keep hk ((Only.refl (fun q => w.heap.size ≤ q) _).grown hg (fun q _ e => (ho.lt q e).1)) (fun k hk => by omega)
end Go.Proofs.YtmdhbbibghpijaaDoor
