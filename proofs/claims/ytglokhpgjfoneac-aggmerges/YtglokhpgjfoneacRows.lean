/-
  No cell of these rows narrows 'for every input' (looked for: loops, veiled, ifaces, maps, wideKeys, modest, calm, conditions, laid).
  DERIVED. THE GIVEN ROWS OF THIS SEAT. 5 by the template 'for every input the law returns true; each argument reads behind the call as it read before'; 0 by the template 'total and deterministic' (their statements: YtglokhpgjfoneacTotals.lean).
  GIVEN WITH THE SEED: the statements are not yours to turn. If you find one false, say at which input.
  Laid BY PROGRAM, IN A SANDBOX (cutbox-rows.mjs): the forced cells as the released guide's own fill.sh prints them over the translation 7686866d262e8215… (all of the seat's roots in one cut). By AI agents, Wed Nov 11 2026. No macro, syntax, notation, axiom, sorry.
-/
import Derived.Test.YtglokhpgjfoneacChecked
import GoSem.Claim
import GoSem.ClaimJoined
import GoSem.ClaimMapViews
import Derived.JoinedTies
import Derived.KernelRfl
namespace Go.Proofs.Ytglokhpgjfoneac
/- THE CELL 'sum', in the pinned program and in every row, IS THE sha256 OF THE DUMP (.gsa) THAT YtglokhpgjfoneacProg.lean LOADS. Nothing in Lean hashes anything: it is a label: what it is worth is what the hold of that sum in a sandbox is worth. -/
noncomputable def Try.pinned : Pinned := { name := "ytglokhpgjfoneac", sum := "7686866d262e8215a0cc004a67e42ca0781b87f88f0fce5f8a826a992974a1c0", checked := Try.checked }
namespace Rows
def none {H : Type} : Left H := { results := [], args := [] }

/-- 'clerestorylaw08.AggTells': WHATEVER THE INPUT: true; the input reads as it did. -/
def aggTellsSpec : ChangeSpec := { name := "aggTells", fn := fun _ => fun
  | [d1, d2, d3, d4] => { results := [.lit (.bool true)], args := [d1, d2, d3, d4] }
  | _ => none }
def aggTellsRow : OpenClaim := { program := "ytglokhpgjfoneac", sum := "7686866d262e8215a0cc004a67e42ca0781b87f88f0fce5f8a826a992974a1c0", func := "clerestory/clerestorylaw08.AggTells", spec := "aggTells", apart := false }
def AggTellsSaid : Prop := aggTellsRow.holds Try.pinned (OpenSpec.ofChange aggTellsSpec)

/-- ITS FALSE NEIGHBOUR: 'it returns false'. Refute it at one input. -/
def aggTellsWrong : ChangeSpec := { name := "aggTells", fn := fun _ => fun
  | [d1, d2, d3, d4] => { results := [.lit (.bool false)], args := [d1, d2, d3, d4] }
  | _ => none }
def AggTellsWrongFalsely : Prop := aggTellsRow.holds Try.pinned (OpenSpec.ofChange aggTellsWrong)

/-- 'clerestorylaw08.AggParts': WHATEVER THE INPUT: true; the input reads as it did. -/
def aggPartsSpec : ChangeSpec := { name := "aggParts", fn := fun _ => fun
  | [d1, d2] => { results := [.lit (.bool true)], args := [d1, d2] }
  | _ => none }
def aggPartsRow : OpenClaim := { program := "ytglokhpgjfoneac", sum := "7686866d262e8215a0cc004a67e42ca0781b87f88f0fce5f8a826a992974a1c0", func := "clerestory/clerestorylaw08.AggParts", spec := "aggParts", apart := false }
def AggPartsSaid : Prop := aggPartsRow.holds Try.pinned (OpenSpec.ofChange aggPartsSpec)

/-- ITS FALSE NEIGHBOUR: 'it returns false'. Refute it at one input. -/
def aggPartsWrong : ChangeSpec := { name := "aggParts", fn := fun _ => fun
  | [d1, d2] => { results := [.lit (.bool false)], args := [d1, d2] }
  | _ => none }
def AggPartsWrongFalsely : Prop := aggPartsRow.holds Try.pinned (OpenSpec.ofChange aggPartsWrong)

/-- 'clerestorylaw08.AggShifts': WHATEVER THE INPUT: true; the input reads as it did. -/
def aggShiftsSpec : ChangeSpec := { name := "aggShifts", fn := fun _ => fun
  | [d1, d2] => { results := [.lit (.bool true)], args := [d1, d2] }
  | _ => none }
def aggShiftsRow : OpenClaim := { program := "ytglokhpgjfoneac", sum := "7686866d262e8215a0cc004a67e42ca0781b87f88f0fce5f8a826a992974a1c0", func := "clerestory/clerestorylaw08.AggShifts", spec := "aggShifts", apart := false }
def AggShiftsSaid : Prop := aggShiftsRow.holds Try.pinned (OpenSpec.ofChange aggShiftsSpec)

/-- ITS FALSE NEIGHBOUR: 'it returns false'. Refute it at one input. -/
def aggShiftsWrong : ChangeSpec := { name := "aggShifts", fn := fun _ => fun
  | [d1, d2] => { results := [.lit (.bool false)], args := [d1, d2] }
  | _ => none }
def AggShiftsWrongFalsely : Prop := aggShiftsRow.holds Try.pinned (OpenSpec.ofChange aggShiftsWrong)

/-- 'clerestorylaw08.AggKinds': WHATEVER THE INPUT: true; the input reads as it did. -/
def aggKindsSpec : ChangeSpec := { name := "aggKinds", fn := fun _ => fun
  | [d1, d2] => { results := [.lit (.bool true)], args := [d1, d2] }
  | _ => none }
def aggKindsRow : OpenClaim := { program := "ytglokhpgjfoneac", sum := "7686866d262e8215a0cc004a67e42ca0781b87f88f0fce5f8a826a992974a1c0", func := "clerestory/clerestorylaw08.AggKinds", spec := "aggKinds", apart := false }
def AggKindsSaid : Prop := aggKindsRow.holds Try.pinned (OpenSpec.ofChange aggKindsSpec)

/-- ITS FALSE NEIGHBOUR: 'it returns false'. Refute it at one input. -/
def aggKindsWrong : ChangeSpec := { name := "aggKinds", fn := fun _ => fun
  | [d1, d2] => { results := [.lit (.bool false)], args := [d1, d2] }
  | _ => none }
def AggKindsWrongFalsely : Prop := aggKindsRow.holds Try.pinned (OpenSpec.ofChange aggKindsWrong)

/-- 'clerestorylaw08.AggMerges': WHATEVER THE INPUT: true; the input reads as it did. -/
def aggMergesSpec : ChangeSpec := { name := "aggMerges", fn := fun _ => fun
  | [d1, d2, d3, d4] => { results := [.lit (.bool true)], args := [d1, d2, d3, d4] }
  | _ => none }
def aggMergesRow : OpenClaim := { program := "ytglokhpgjfoneac", sum := "7686866d262e8215a0cc004a67e42ca0781b87f88f0fce5f8a826a992974a1c0", func := "clerestory/clerestorylaw08.AggMerges", spec := "aggMerges", unfollowed := true, recurses := true, apart := false }
def AggMergesSaid : Prop := aggMergesRow.holds Try.pinned (OpenSpec.ofChange aggMergesSpec)

/-- ITS FALSE NEIGHBOUR: 'it returns false'. Refute it at one input. -/
def aggMergesWrong : ChangeSpec := { name := "aggMerges", fn := fun _ => fun
  | [d1, d2, d3, d4] => { results := [.lit (.bool false)], args := [d1, d2, d3, d4] }
  | _ => none }
def AggMergesWrongFalsely : Prop := aggMergesRow.holds Try.pinned (OpenSpec.ofChange aggMergesWrong)

/- THE SECOND FORM. 'bulk': how many values and letters a reading holds, each counted each time it is reached (what is shared counts as often as it is met; a slice's spare places count too). A statement '..UptoSaid' is the law's where the arguments, and the package variables that the reading takes, are together of bulk at most 1048576: NARROWER than '..Said'. Prove '..Said' where nothing that the law and all that it calls make is longer than what came in: it says more and counts as full. Else prove '..UptoSaid'. A law counts once. -/
mutual
def uptoBulk {H : Type} : DataW H → Nat
  | .lit (.string bytes) => bytes.length + 1
  | .lit _ => 1
  | .nil => 1
  | .ptr d => uptoBulk d + 1
  | .slice elems spare => uptoBulkAll elems + uptoBulkAll spare + 1
  | .agg parts => uptoBulkAll parts + 1
  | .iface _ d => uptoBulk d + 1
  | .map entries => uptoBulkEntries entries + 1
  | .held _ => 1
def uptoBulkAll {H : Type} : List (DataW H) → Nat
  | [] => 0
  | d :: r => uptoBulk d + uptoBulkAll r
def uptoBulkEntries {H : Type} : List (Lit × DataW H) → Nat
  | [] => 0
  | x :: r => uptoBulkEntry x + uptoBulkEntries r
def uptoBulkEntry {H : Type} : Lit × DataW H → Nat
  | (.string bytes, d) => bytes.length + uptoBulk d + 1
  | (_, d) => uptoBulk d + 1
 end
def uptoSmall : (H : Type) → List (DataW H) → Bool := fun _ ds => decide (uptoBulkAll ds ≤ 1048576)
def OpenSpec.upto (s : _root_.Go.ChangeSpec) : _root_.Go.OpenSpec := { _root_.Go.OpenSpec.ofChange s with cond := some uptoSmall }

/-- 'clerestorylaw08.AggTells', WHERE WHAT IT READS IS OF BULK AT MOST 1048576: true; the input reads as it did. -/
def aggTellsUptoRow : OpenClaim := { program := "ytglokhpgjfoneac", sum := "7686866d262e8215a0cc004a67e42ca0781b87f88f0fce5f8a826a992974a1c0", func := "clerestory/clerestorylaw08.AggTells", spec := "aggTells", apart := false, narrowed := true }
def AggTellsUptoSaid : Prop := aggTellsUptoRow.holds Try.pinned (OpenSpec.upto aggTellsSpec)

/-- 'clerestorylaw08.AggParts', WHERE WHAT IT READS IS OF BULK AT MOST 1048576: true; the input reads as it did. -/
def aggPartsUptoRow : OpenClaim := { program := "ytglokhpgjfoneac", sum := "7686866d262e8215a0cc004a67e42ca0781b87f88f0fce5f8a826a992974a1c0", func := "clerestory/clerestorylaw08.AggParts", spec := "aggParts", apart := false, narrowed := true }
def AggPartsUptoSaid : Prop := aggPartsUptoRow.holds Try.pinned (OpenSpec.upto aggPartsSpec)

/-- 'clerestorylaw08.AggShifts', WHERE WHAT IT READS IS OF BULK AT MOST 1048576: true; the input reads as it did. -/
def aggShiftsUptoRow : OpenClaim := { program := "ytglokhpgjfoneac", sum := "7686866d262e8215a0cc004a67e42ca0781b87f88f0fce5f8a826a992974a1c0", func := "clerestory/clerestorylaw08.AggShifts", spec := "aggShifts", apart := false, narrowed := true }
def AggShiftsUptoSaid : Prop := aggShiftsUptoRow.holds Try.pinned (OpenSpec.upto aggShiftsSpec)

/-- 'clerestorylaw08.AggKinds', WHERE WHAT IT READS IS OF BULK AT MOST 1048576: true; the input reads as it did. -/
def aggKindsUptoRow : OpenClaim := { program := "ytglokhpgjfoneac", sum := "7686866d262e8215a0cc004a67e42ca0781b87f88f0fce5f8a826a992974a1c0", func := "clerestory/clerestorylaw08.AggKinds", spec := "aggKinds", apart := false, narrowed := true }
def AggKindsUptoSaid : Prop := aggKindsUptoRow.holds Try.pinned (OpenSpec.upto aggKindsSpec)

/-- 'clerestorylaw08.AggMerges', WHERE WHAT IT READS IS OF BULK AT MOST 1048576: true; the input reads as it did. -/
def aggMergesUptoRow : OpenClaim := { program := "ytglokhpgjfoneac", sum := "7686866d262e8215a0cc004a67e42ca0781b87f88f0fce5f8a826a992974a1c0", func := "clerestory/clerestorylaw08.AggMerges", spec := "aggMerges", unfollowed := true, recurses := true, apart := false, narrowed := true }
def AggMergesUptoSaid : Prop := aggMergesUptoRow.holds Try.pinned (OpenSpec.upto aggMergesSpec)

end Rows
end Go.Proofs.Ytglokhpgjfoneac
