/- Maps that the call makes: frames, and a len that stands behind a guard. Nothing of the program. -/
import Derived.Test.YtopengbflnoneaaMem
import Derived.Maps.OwnSet
import Derived.Maps.OwnOps
import Derived.Maps.RangeWalk
namespace Go.Proofs.Ytopengbflnoneaa
open Go.RowKit

section
variable {H : Type} {P : Program} {k e : TypeId} {R : Value → Option (DataW H × List MemPlace)} {w w' : World} {S : Nat → Prop} {b n : Nat} {D : DataW H}
theorem ownsMap_only (h : w.ownsMap P k R b n D) (ho : Only S w w') (hS : ¬ S b) : w'.ownsMap P k R b n D := by
  obtain ⟨es, clock, hb, r⟩ := h
  exact ⟨es, clock, (ho.block b (Array.getElem?_eq_some_iff.1 hb).1 hS).trans hb, r⟩
theorem ownsMap_keep (h : w.ownsMap P k R b n D) (hk : Keep w w') : w'.ownsMap P k R b n D := ownsMap_only h (Only.of_keep (fun _ => False) hk) (fun h => h)
theorem ranges_only {r : Nat} {left : Lit → Bool} {cnt : Nat} (h : w.ranges P k R b r n D left cnt) (ho : Only S w w') (hb : ¬ S b) (hr : ¬ S r) : w'.ranges P k R b r n D left cnt := by
  obtain ⟨es, clock, since, seen, c0, h1, h2, h3, h4, h5, h6⟩ := h
  exact ⟨es, clock, since, seen, c0, (ho.block b (Array.getElem?_eq_some_iff.1 h1).1 hb).trans h1, h2, h3, h4, (ho.block r (Array.getElem?_eq_some_iff.1 h5).1 hr).trans h5, h6⟩
theorem ranges_keep {r : Nat} {left : Lit → Bool} {cnt : Nat} (h : w.ranges P k R b r n D left cnt) (hk : Keep w w') : w'.ranges P k R b r n D left cnt := ranges_only h (Only.of_keep (fun _ => False) hk) (fun h => h) (fun h => h)
/-- len of a map, behind a guard that holds. -/
theorem wpList_len_want {ops : Array Oper} {rest : List Oper} {o : Oper} {a : Act} {Q : Exit → Act → World → Prop} (hg : Region.wanted o (yielded ops a.tmps) = true) (m : Operand) (t : TypeId) (hop : o.op = Op.call { callee := Callee.builtin Builtin.len, args := #[m], argTypes := #[t] })
    (ht : P.underlying t = some (.map k e)) (hm : a.eval m = .map (some b)) (hown : w.ownsMap P k R b n D)
    (hK : wpList P ops Q rest (a.put o.dst (.int .i64 (Maps.size D))) w) :
    wpList P ops Q (o :: rest) a w := by
  refine BigFrame.wpList_want hg fun K' hK' => ?_
  unfold Oper.wp
  simp [execOp, hop, resolve, invoke, builtin, hm, hown.len ht o.type, Result.andThen]
  exact hK' _ _ hK
end
end Go.Proofs.Ytopengbflnoneaa
