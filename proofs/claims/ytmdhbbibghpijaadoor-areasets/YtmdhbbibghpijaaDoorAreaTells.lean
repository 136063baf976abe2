/- A call in a Seq walk, with what its contract says beside. A Bool that tells a proposition. -/
import Derived.Test.YtmdhbbibghpijaaDoorSeq
import Derived.Test.YtmdhbbibghpijaaDoorAreaArg
namespace Go.Proofs.YtmdhbbibghpijaaDoor
open Go.RowKit
section
variable {P : Program} {Q : Exit → Act → World → Prop} {S R : World → Prop}
/-- A call that is wanted: its contract says what it answers, that S holds behind it, and what else. -/
theorem seq_callR {o : Oper} {gs : Option (Option Tmp × Bool)} {rest : List (Option RowR)} {a a' : Act} {w : World} {x : Operand} {xs : Array Operand} {ts : Array TypeId} {f : FuncId} {args : Array Value} {v : Value} (hw : wantR gs a.tmps = true)
    (ho : o.op = .call { callee := .value x, args := xs, argTypes := ts }) (hx : a.eval x = .func (.func f) #[] #[]) (hf : ∀ (args : Array Value) (w : World), (callFunc f args).run P w = .ok (.enter f args) w) (hargs : xs.map a.eval = args)
    (hc : Calls P f args w fun e w' => e = .returned v ∧ S w' ∧ R w') (ha : a.put o.dst v = a') (h : ∀ w', S w' → R w' → SeqR P Q S rest a' w') :
    SeqR P Q S (some ⟨o, gs, true⟩ :: rest) a w := by
  subst ha
  refine .inl ⟨rfl, fun K hK => ?_⟩
  simp only [hw, if_true]
  unfold Oper.wp
  rw [run_callv ho hx hf hargs]
  refine Calls.mono hc fun e w' ⟨he, hS, hR⟩ => ?_
  subst he
  exact hK.out _ _ hS (h w' hS hR)
end
end Go.Proofs.YtmdhbbibghpijaaDoor
namespace Go.Proofs.YtmdhbbibghpijaaDoor
open Go.RowKit
/-- A Bool that tells a proposition. -/
structure Tells (v : Bool) (P : Prop) : Prop where
  iff : v = true ↔ P
theorem tells_is (P : Prop) : ∃ v : Bool, Tells v P := by
  by_cases h : P
  · exact ⟨true, ⟨by simp [h]⟩⟩
  · exact ⟨false, ⟨by simp [h]⟩⟩
theorem keep_grownA {w w1 w2 : World} {e : TypeId} {size : Nat} {v : Value} {n : Nat} {xs : List Value} (hk : Keep w w1) (ho : w1.ownsRow w.heap.size e size v n xs) (hg : w1.grownBy w2 v.ownBlock) : Keep w w2 :=
  Only.keep hk ((Only.refl (fun q => w.heap.size ≤ q) _).grown hg (fun q _ e => (ho.lt q e).1)) (fun k hk => by omega)
end Go.Proofs.YtmdhbbibghpijaaDoor
