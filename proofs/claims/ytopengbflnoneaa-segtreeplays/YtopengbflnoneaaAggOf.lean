/- agg.Of: what is told of all values. -/
import Derived.Test.YtopengbflnoneaaAggFn
namespace Go.Proofs.Ytopengbflnoneaa
open Go.RowKit

theorem AgAt.only {w w' : World} {S : Nat → Prop} {b : Nat} {a : Ag} (h : AgAt w b a) (ho : Only S w w') (hb : ¬ S b) : AgAt w' b a := (ho.block b h.lt hb).trans h
theorem vals_get {zs : List Int} {j : Nat} {v : Int} (h : zs[j]? = some v) : (vals .i64 zs).getD j undef = .int .i64 v := by
  simp [vals, List.getD_eq_getElem?_getD, h]
theorem take_succ {zs : List Int} {j : Nat} {v : Int} (h : zs[j]? = some v) : zs.take (j + 1) = zs.take j ++ [v] := by
  rw [List.take_add_one, h]; rfl
theorem ofL_take {zs : List Int} {j : Nat} {v : Int} (h : zs[j]? = some v) : mrg (ofL (zs.take j)) (one1 v) = ofL (zs.take (j + 1)) := by
  rw [take_succ h, ofL_snoc]

end Go.Proofs.Ytopengbflnoneaa
