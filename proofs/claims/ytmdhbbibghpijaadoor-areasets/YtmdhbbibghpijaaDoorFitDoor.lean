/- What the listed variable gives the walks: the table in its variable; the world in which it lies. -/
import Derived.Test.YtmdhbbibghpijaaDoorRows
import Derived.Test.YtmdhbbibghpijaaDoorTie
import Derived.Test.YtmdhbbibghpijaaDoorCards
import Derived.Test.YtmdhbbibghpijaaDoorFitSeq
import Derived.ProofKit
import Derived.LaidMore
import Derived.OpenShut
import Derived.Stop.Joined
import Derived.SevenTiedAt
import Derived.Lib.LaidTab
import Derived.Below
namespace Go.Proofs.YtmdhbbibghpijaaDoor
open Go.ChangeShapes Go.WideShapes Go.ChangeAt Go.RowKit

theorem own : ownKnob Tryd.prog.godebug = none := by kernel_rfl
theorem laidOut : laidOutB Tryd.prog = true := by kernel_rfl
theorem gTab : Tryd.prog.globalNamed "math/bits.deBruijn64tab" = some 0 := by kernel_rfl
theorem tTab : (Tryd.prog.globals[0]?).map (·.type) = some 90 := by kernel_rfl
def laidL : List (String × DataW Unit) := [("math/bits.deBruijn64tab", Rows.laid_math_bits_deBruijn64tab)]
def tabInts : List Int := Lib.deBruijn64tab.map fun n : Nat => (n : Int)
theorem laid_eq {H : Type} : (Rows.laid_math_bits_deBruijn64tab : DataW H) = Lib.tabData .u8 tabInts := by kernel_rfl

theorem door_met (os : Os) (args : Array Value) : laidMetH Tryd.prog laidL ((World.doorLaid Tryd.prog 14 os).forCall (fun _ _ => 0) ⟨#[], args, []⟩).memory :=
  laidMetH_of_parts3 (fuel := 8) (laidMet_of_run' 8 (by kernel_rfl) (by kernel_rfl)) (by kernel_rfl) (by kernel_rfl)

theorem tab_of_laid {W : World} (h : laidMetH Tryd.prog laidL W) : Tab W := by
  rw [MakeChecks.laidMetH_plain _ _ _ (by kernel_rfl)] at h
  have h' : laidMet Tryd.prog [("math/bits.deBruijn64tab", Lib.tabData .u8 tabInts)] W := by rw [← laid_eq]; exact h
  have hT := Lib.tabIs_of_head (k := .u8) (zs := tabInts) gTab tTab Tryd.underlying90 Tryd.underlying5 (by kernel_rfl) (by kernel_rfl) h'
  intro j hj
  have hl : tabInts.length = 64 := by decide +kernel
  have := hT.cell gTab j (by rw [hl]; exact hj)
  rw [this]
  congr 2
  simp [tabInts, List.getD_eq_getElem?_getD]
  cases Lib.deBruijn64tab[j]? <;> rfl
end Go.Proofs.YtmdhbbibghpijaaDoor
