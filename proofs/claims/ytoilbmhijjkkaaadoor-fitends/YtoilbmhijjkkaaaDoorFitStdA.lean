/- FitTypes and FitEnds, as their rows ask them. -/
import Derived.Test.YtoilbmhijjkkaaaDoorFitLawA
import Derived.Test.YtoilbmhijjkkaaaDoorFitDoor
namespace Go.Proofs.YtoilbmhijjkkaaaDoor
open Go.RowKit
theorem FitTypes_std (a0 : Int) (w0 : (Lit.int .i64 a0).wf = true) (w : World) (hT : Tab w) :
    Calls Tryd.prog 3 #[.int .i64 a0] w fun e w' => e = .returned (.bool true) ∧ Below w.heap.size w w' := types_walk a0 w hT (bounds_i64 w0).1 (bounds_i64 w0).2
theorem FitEnds_std (a0 : Int) (w0 : (Lit.int .i64 a0).wf = true) (w : World) (hT : Tab w) :
    Calls Tryd.prog 8 #[.int .i64 a0] w fun e w' => e = .returned (.bool true) ∧ Below w.heap.size w w' := ends_walk a0 w hT (bounds_i64 w0).1 (bounds_i64 w0).2
end Go.Proofs.YtoilbmhijjkkaaaDoor
