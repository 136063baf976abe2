/- A region that draws, inside a round of a range over a function: walked along one order, as Seq does outside. Nothing of the program. -/
import Derived.Test.YtmdhbbibghpijaaDoorSeqPlan
import Derived.RangeFuncNested
import Derived.OrdersIn
import Derived.TacticsIn
namespace Go.Proofs.YtmdhbbibghpijaaDoor
open Go.RowKit

/-- Is no operation put off? -/
def noDefer (ops : Array Oper) : Bool := ops.toList.all fun o => match o.op with | .defer _ => false | _ => true
theorem noDefer_get {ops : Array Oper} (h : noDefer ops = true) {i : Nat} {o : Oper} (ho : ops[i]? = some o) : ∀ c, o.op ≠ .defer c := by
  intro c hc
  have h1 := List.all_eq_true.1 h o (by
    have h2 : ops.toList[i]? = some o := by rw [Array.getElem?_toList]; exact ho
    exact List.mem_of_getElem? h2)
  rw [hc] at h1
  cases h1

section
variable {P : Program} {Q : Exit → Act → World → Prop} {l n : Nat}
theorem op_in {o : Oper} {K : Act → World → Prop} {a : Act} {w : World} (hd : ∀ c, o.op ≠ .defer c) (h : o.wp P a w K Q) : o.wpIn (Fence.wide.inRound l) n P a w K Q := by
  unfold Oper.wp at h
  unfold Oper.wpIn
  refine ⟨fun _ _ => trivial, ?_⟩
  rw [Oper.semAt_eq _ _ _ hd]
  cases hres : (execOp a.eval o).run P w with
  | ok x w' =>
    rw [hres] at h
    cases x with
    | value v => exact h
    | skip => exact h
    | defer d => exact h
    | enter f args =>
      refine ⟨(fun h => by cases h), ?_⟩
      refine (callsIn_wide.2 (Calls.mono h (R' := fun e w'' => match e with | .returned v => K (a.put o.dst v) w'' | .panicked chain => Q (.panic chain) a w'' | .outgrown => LetsOut Q) ?_)).mono ?_
      · intro e w'' he
        cases e <;> exact he
      · intro e w'' he
        cases e <;> exact he
    | row r args =>
      refine ⟨(fun h => by cases h), fun c cs _ => ?_⟩
      obtain ⟨v, w'', h1, h2⟩ := h c cs
      exact ⟨v, w'', h1, stepsIn_wide.2 h2⟩
    | round => exact h.elim
    | _ => exact h.elim
  | halt x w' =>
    rw [hres] at h
    cases x with
    | panic v => exact h
    | _ => exact h.elim

theorem any_in {ops : Array Oper} {md : Region.Mode} (hd : noDefer ops = true) (hno : ∀ a w, ¬ Q .outgrown a w) : ∀ (fuel : Nat) (listed : Array Bool) (a : Act) (w : World), wpAny P md ops Q fuel listed a w → wpAnyIn (Fence.wide.inRound l) n P md ops Q fuel listed a w
  | 0, _, _, _, h => h
  | fuel + 1, listed, a, w, h => by
    refine ⟨h.1, fun i hi => ?_⟩
    have h2 := h.2 i hi
    have ih := any_in (md := md) hd hno fuel (listed.setIfInBounds i true)
    unfold wpOp at h2
    unfold wpOpIn
    cases ho : ops[i]? with
    | none => rw [ho] at h2; exact ih _ _ h2
    | some o =>
      rw [ho] at h2
      dsimp only at h2 ⊢
      by_cases hw : Region.wanted o (yielded ops a.tmps) = true
      · rw [if_pos hw] at h2 ⊢
        rcases h2 with h2 | ⟨_, a', w', h2⟩
        · exact op_in (noDefer_get hd ho) (Oper.wp_mono (fun a w h => ih a w h) h2)
        · exact absurd h2 (hno a' w')
      · rw [if_neg hw] at h2 ⊢
        exact ⟨fun _ _ => trivial, ih _ _ h2⟩

/-- A region that draws, in a round, along an order that is checked once. -/
theorem seq_region_in {S : World → Prop} {id : Nat} {ops : Array Oper} {a : Act} {w : World} (ms : List Msk) (sch : List (Nat × Bool)) (hm : P.follows .mixedOrders = true)
    (hms : (Region.noSelect ops && (Nat.beq sch.length ops.size && eqM ms ops.toList ops)) = true) (hok : seqM ms sch 0 = true) (hd : noDefer ops = true) (hno : ∀ a w, ¬ Q .outgrown a w)
    (hQ : ∀ c a d v w, Q (.panic c) (Act.put a d v) w → Q (.panic c) a w) (hS : S w.drew) (h : SeqR P Q S (rowsOf ops sch) a w.drew) : (Code.region id ops true).wpIn (Fence.wide.inRound l) n P Q a w := by
  simp only [Bool.and_eq_true] at hms
  obtain ⟨h1, h2, h3⟩ := hms
  refine wpIn_region_any hm (any_in hd hno _ _ _ _ (wpAny_of_held (S := S) _ _ _ _ ?_))
  · have := seq_sound ops h1 hQ ms (eqM_spec _ _ _ h3) sch (Array.replicate ops.size false) 0 a w.drew ⟨by simp, fun j hj => by simp [hj]⟩ (fun k hk => by simp at hk) hok hS h
    rw [Nat.eq_of_beq_eq_true h2] at this
    exact this
/-- A region that draws, in a round, along a plan that forks. -/
theorem plan_region_in {S : World → Prop} {id : Nat} {ops : Array Oper} {a : Act} {w : World} (ms : List Msk) (pl : Plan) (hm : P.follows .mixedOrders = true)
    (hms : (Region.noSelect ops && (Nat.beq pl.len ops.size && eqM ms ops.toList ops)) = true) (hok : planM ms pl 0 = true) (hd : noDefer ops = true) (hno : ∀ a w, ¬ Q .outgrown a w)
    (hQ : ∀ c a d v w, Q (.panic c) (Act.put a d v) w → Q (.panic c) a w) (hS : S w.drew) (h : PlanR P Q S ops pl a w.drew) : (Code.region id ops true).wpIn (Fence.wide.inRound l) n P Q a w := by
  simp only [Bool.and_eq_true] at hms
  obtain ⟨h1, h2, h3⟩ := hms
  refine wpIn_region_any hm (any_in hd hno _ _ _ _ (wpAny_of_held (S := S) _ _ _ _ ?_))
  have := plan_sound ops h1 hQ ms (eqM_spec _ _ _ h3) pl (Array.replicate ops.size false) 0 a w.drew ⟨by simp, fun j hj => by simp [hj]⟩ (fun k hk => by simp at hk) hok hS h
  rw [Nat.eq_of_beq_eq_true h2] at this
  exact this
variable {S : World → Prop}
/-- One way of a fork: a call whose answer is told by R. -/
theorem br_callx {G : Act → World → Prop} {o : Oper} {gs : Option (Option Tmp × Bool)} {a : Act} {w : World} {x : Operand} {xs : Array Operand} {ts : Array TypeId} {f : FuncId} {args : Array Value} (R : Value → World → Prop) (hw : wantR gs a.tmps = true)
    (ho : o.op = .call { callee := .value x, args := xs, argTypes := ts }) (hx : a.eval x = .func (.func f) #[] #[]) (hf : ∀ (args : Array Value) (w : World), (callFunc f args).run P w = .ok (.enter f args) w) (hargs : xs.map a.eval = args)
    (hc : Calls P f args w fun e w' => ∃ v, e = .returned v ∧ S w' ∧ R v w') (h : ∀ v w', S w' → R v w' → G (a.put o.dst v) w') : Alone P Q S o gs G a w := by
  intro K hK
  simp only [hw, if_true]
  unfold Oper.wp
  rw [run_callv ho hx hf hargs]
  refine Calls.mono hc fun e w' ⟨v, he, hS, hR⟩ => ?_
  subst he
  exact hK.out _ _ hS (h v w' hS hR)
/-- An operation that makes, or whose answer hangs on the world at hand. -/
theorem sq_make {o : Oper} {gs : Option (Option Tmp × Bool)} {rest : List (Option RowR)} {a a' : Act} {w w' : World} {v : Value} (hw : wantR gs a.tmps = true) (hr : (execOp a.eval o).run P w = .ok (.value v) w') (hS : S w') (ha : a.put o.dst v = a') (h : SeqR P Q S rest a' w') :
    SeqR P Q S (some ⟨o, gs, true⟩ :: rest) a w := by
  subst ha
  refine .inl ⟨rfl, fun K hK => ?_⟩
  simp only [hw, if_true]
  unfold Oper.wp
  rw [hr]
  exact hK.out _ _ hS h
theorem sq_store {o : Oper} {gs : Option (Option Tmp × Bool)} {rest : List (Option RowR)} {a a' : Act} {w w' : World} (hw : wantR gs a.tmps = true) (hr : (execOp a.eval o).run P w = .ok .skip w') (hS : S w') (ha : a.put o.dst undef = a') (h : SeqR P Q S rest a' w') :
    SeqR P Q S (some ⟨o, gs, true⟩ :: rest) a w := by
  subst ha
  refine .inl ⟨rfl, fun K hK => ?_⟩
  simp only [hw, if_true]
  unfold Oper.wp
  rw [hr]
  exact hK.out _ _ hS h
theorem sq_callx {o : Oper} {gs : Option (Option Tmp × Bool)} {rest : List (Option RowR)} {a : Act} {w : World} {x : Operand} {xs : Array Operand} {ts : Array TypeId} {f : FuncId} {args : Array Value} (R : Value → World → Prop) (hw : wantR gs a.tmps = true)
    (ho : o.op = .call { callee := .value x, args := xs, argTypes := ts }) (hx : a.eval x = .func (.func f) #[] #[]) (hf : ∀ (args : Array Value) (w : World), (callFunc f args).run P w = .ok (.enter f args) w) (hargs : xs.map a.eval = args)
    (hc : Calls P f args w fun e w' => ∃ v, e = .returned v ∧ S w' ∧ R v w') (h : ∀ v w', S w' → R v w' → SeqR P Q S rest (a.put o.dst v) w') :
    SeqR P Q S (some ⟨o, gs, true⟩ :: rest) a w := by
  refine .inl ⟨rfl, fun K hK => ?_⟩
  simp only [hw, if_true]
  unfold Oper.wp
  rw [run_callv ho hx hf hargs]
  refine Calls.mono hc fun e w' ⟨v, he, hS, hR⟩ => ?_
  subst he
  exact hK.out _ _ hS (h v w' hS hR)
theorem run_app {o : Oper} {a : Act} {w w' : World} {s x : Operand} {t : TypeId} {v u v' : Value} (ho : o.op = .call { callee := .builtin .append, args := #[s, x], argTypes := #[t, t] }) (hs : a.eval s = v) (hx : a.eval x = u)
    (hr : (Builtin.append_ #[t, t] o.type #[v, u]).run P w = .ok v' w') : (execOp a.eval o).run P w = .ok (.value v') w' := by
  simp [execOp, ho, resolve, invoke, builtin, hs, hx, hr, Result.andThen]
end
end Go.Proofs.YtmdhbbibghpijaaDoor
