/- What every row of this seat asks of the program. -/
import Derived.Test.YtdjhdcomoilhjaaRows
import Derived.ProofKit
namespace Go.Proofs.Ytdjhdcomoilhjaa
theorem own : ownKnob Try.prog.godebug = none := by kernel_rfl
theorem laidOut : laidOutB Try.prog = true := by kernel_rfl
end Go.Proofs.Ytdjhdcomoilhjaa
