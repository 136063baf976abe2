/- A region that draws, in which two operations may come up in either order: walked along a plan that forks. Nothing of the program. -/
import Derived.Test.YtmdhbbibghpijaaDoorSeq
namespace Go.Proofs.YtmdhbbibghpijaaDoor
open Go.RowKit

/-- An order, that may part in two. -/
inductive Plan where
  | fin (sch : List (Nat × Bool)) : Plan
  | step (i : Nat) (c : Bool) (rest : Plan) : Plan
  | fork (i : Nat) (p : Plan) (j : Nat) (q : Plan) : Plan
def Plan.len : Plan → Nat
  | .fin sch => sch.length
  | .step _ _ r => r.len + 1
  | .fork _ p _ _ => p.len + 1
/-- Is nothing else ready than these two? -/
def onlyM (i j L : Nat) : Nat → List Msk → Bool
  | _, [] => true
  | k, y :: ys => (k == i || k == j || L.testBit k || y.aft &&& L != y.aft) && onlyM i j L (k + 1) ys
def planM (ms : List Msk) : Plan → Nat → Bool
  | .fin sch, L => seqM ms sch L
  | .step i c rest, L => match ms[i]? with
    | none => false
    | some x => !L.testBit i && (x.aft &&& L == x.aft) && othersM i c x L 0 ms && planM ms rest (L ||| 1 <<< i)
  | .fork i p j q, L => match ms[i]?, ms[j]? with
    | some x, some y => !L.testBit i && !L.testBit j && (x.aft &&& L == x.aft) && (y.aft &&& L == y.aft) && onlyM i j L 0 ms && Nat.beq p.len q.len && planM ms p (L ||| 1 <<< i) && planM ms q (L ||| 1 <<< j)
    | _, _ => false
/-- An operation that stands alone, or is one way of a fork. -/
def Alone (P : Program) (Q : Exit → Act → World → Prop) (S : World → Prop) (o : Oper) (gs : Option (Option Tmp × Bool)) (G : Act → World → Prop) (a : Act) (w : World) : Prop :=
  ∀ K : Act → World → Prop, Shut (∀ a w, S w → G a w → K a w) → if wantR gs a.tmps = true then o.wp P a w K Q else K (a.put o.dst undef) w
/-- An operation that is taken first. -/
def First (P : Program) (S : World → Prop) (o : Oper) (gs : Option (Option Tmp × Bool)) (G : Act → World → Prop) (a : Act) (w : World) : Prop :=
  ∃ v, ((wantR gs a.tmps = true ∧ ∀ w, S w → (execOp a.eval o).run P w = .ok (.value v) w) ∨ (wantR gs a.tmps = false ∧ v = undef)) ∧ G (a.put o.dst v) w
/-- The walk along the plan. -/
def PlanR (P : Program) (Q : Exit → Act → World → Prop) (S : World → Prop) (ops : Array Oper) : Plan → Act → World → Prop
  | .fin sch, a, w => SeqR P Q S (rowsOf ops sch) a w
  | .step i true rest, a, w => match ops[i]? with
    | none => False
    | some o => Alone P Q S o (gslot ops o) (PlanR P Q S ops rest) a w
  | .step i false rest, a, w => match ops[i]? with
    | none => False
    | some o => First P S o (gslot ops o) (PlanR P Q S ops rest) a w
  | .fork i p j q, a, w => match ops[i]?, ops[j]? with
    | some r, some s => Alone P Q S r (gslot ops r) (PlanR P Q S ops p) a w ∧ Alone P Q S s (gslot ops s) (PlanR P Q S ops q) a w
    | _, _ => False
theorem onlyM_spec {i j L : Nat} : ∀ (ys : List Msk) (s : Nat), onlyM i j L s ys = true → ∀ k y, ys[k]? = some y → s + k = i ∨ s + k = j ∨ L.testBit (s + k) = true ∨ y.aft &&& L ≠ y.aft
  | [], _, _, k, y, hk => by simp at hk
  | y0 :: ys, s, h, k, y, hk => by
    simp only [onlyM, Bool.and_eq_true] at h
    cases k with
    | zero =>
      obtain rfl : y0 = y := by simpa using hk
      have h1 := h.1
      simp only [Bool.or_eq_true, beq_iff_eq, bne_iff_ne, or_assoc] at h1
      simpa using h1
    | succ k =>
      have := onlyM_spec ys (s + 1) h.2 k y (by simpa using hk)
      rw [show s + (k + 1) = s + 1 + k from by omega]
      exact this
section
variable {P : Program} {Q : Exit → Act → World → Prop} {S : World → Prop}
theorem notready {ops : Array Oper} {oj : Oper} {listed : Array Bool} {L : Nat} (hL : Listed ops.size listed L) (hall : ∀ e ∈ oj.after, Region.binds .any e = true → listed.getD e.on false = true) : (mskOf ops oj).aft &&& L = (mskOf ops oj).aft := by
  apply Nat.eq_of_testBit_eq
  intro k
  rw [Nat.testBit_and]
  cases hk' : (mskOf ops oj).aft.testBit k
  · simp
  · simp only [mskOf, maskOf_test, decide_eq_true_eq, List.mem_map, List.mem_filter] at hk'
    obtain ⟨e, ⟨he, hbd⟩, rfl⟩ := hk'
    have := hall e (by simpa using he) hbd
    rcases Nat.lt_or_ge e.on ops.size with hlt | hge
    · rw [hL.false_eq _ hlt] at this
      simp [this]
    · rw [Array.getD, dif_neg (by rw [hL.1]; omega)] at this
      cases this
theorem bit_lt {ops : Array Oper} {L i : Nat} (hi : i < ops.size) (hn : ∀ k, L.testBit k = true → k < ops.size) : ∀ k, (L ||| 1 <<< i).testBit k = true → k < ops.size := fun k hk => by
  rw [Nat.testBit_or, Nat.one_shiftLeft, Nat.testBit_two_pow, Bool.or_eq_true, decide_eq_true_eq] at hk
  rcases hk with hk | rfl
  · exact hn k hk
  · exact hi
theorem op_of {ops : Array Oper} {i : Nat} {o : Oper} (ho : ops[i]? = some o) {m : Nat} {listed : Array Bool} {a : Act} {w : World} {G : Act → World → Prop} (hG : ∀ a' w', S w' → G a' w' → wpAnyH P .any ops Q S m (listed.setIfInBounds i true) a' w')
    (hk : Alone P Q S o (gslot ops o) G a w) :
    wpOp P ops Q i (fun a' w' => S w' ∧ wpAnyH P .any ops Q S m (listed.setIfInBounds i true) a' w') a w := by
  have hk' := hk (fun a' w' => S w' ∧ wpAnyH P .any ops Q S m (listed.setIfInBounds i true) a' w') (fun a' w' hS' hr => ⟨hS', hG a' w' hS' hr⟩)
  simp only [wantR_eq] at hk'
  unfold wpOp
  simp only [ho]
  split at hk'
  · rename_i hw
    rw [if_pos hw]
    exact .inl hk'
  · rename_i hw
    rw [if_neg hw]
    exact hk'
theorem plan_sound (ops : Array Oper) (hs : Region.noSelect ops = true) (hQ : ∀ c a d v w, Q (.panic c) (Act.put a d v) w → Q (.panic c) a w) (ms : List Msk) (hms : ms = ops.toList.map (mskOf ops)) :
    ∀ (pl : Plan) (listed : Array Bool) (L : Nat) (a : Act) (w : World), Listed ops.size listed L → (∀ k, L.testBit k = true → k < ops.size) → planM ms pl L = true → S w → PlanR P Q S ops pl a w → wpAnyH P .any ops Q S pl.len listed a w
  | .fin sch, listed, L, a, w, hL, hn, hok, hS, h => seq_sound ops hs hQ ms hms sch listed L a w hL hn hok hS h
  | .step i c rest, listed, L, a, w, hL, hn, hok, hS, h => by
    have hmi : ∀ j, ms[j]? = (ops[j]?).map (mskOf ops) := fun j => by rw [hms, List.getElem?_map, Array.getElem?_toList]
    cases ho : ops[i]? with
    | none => cases c <;> simp [PlanR, ho] at h
    | some o =>
      have hin := (Array.getElem?_eq_some_iff.1 ho).1
      simp only [planM, hmi, ho, Option.map_some, Bool.and_eq_true, Bool.not_eq_true', beq_iff_eq] at hok
      obtain ⟨⟨⟨hb, ha⟩, hoth⟩, hrest⟩ := hok
      have ih := plan_sound ops hs hQ ms hms rest (listed.setIfInBounds i true) (L ||| 1 <<< i)
      have hL' := hL.set i
      have hn' := bit_lt hin hn
      have hready : i ∈ Region.ready .any ops listed := mem_ready.2 ⟨by rw [hL.2 i hin]; exact hb, o, ho, aft_sub hL ha hn⟩
      have hoth' := othersM_spec ms 0 hoth
      cases c with
      | true =>
        have hk : Alone P Q S o (gslot ops o) (PlanR P Q S ops rest) a w := by simpa only [PlanR, ho] using h
        refine ⟨fun h0 => (by rw [h0] at hready; cases hready), fun j hj => ?_⟩
        obtain ⟨h0, oj, hoj, hall⟩ := mem_ready.1 hj
        have hjn := (Array.getElem?_eq_some_iff.1 hoj).1
        have hji : j = i := by
          rcases hoth' j (mskOf ops oj) (by rw [hmi, hoj]; rfl) with (h1 | h1) | h1
          · omega
          · rw [Nat.zero_add, ← hL.2 j hjn, h0] at h1
            cases h1
          · simp only [if_true] at h1
            exact absurd (notready hL hall) h1
        subst hji
        exact op_of ho (fun a' w' hS' hr => ih a' w' hL' hn' hrest hS' hr) hk
      | false =>
        obtain ⟨v, hy, hr⟩ : First P S o (gslot ops o) (PlanR P Q S ops rest) a w := by simpa only [PlanR, ho] using h
        refine wpAnyH_first ho (Region.noSelect_spec hs) (fun c a w => hQ c a _ _ w) rest.len listed a w ?_ hready (by simp only [wantR_eq] at hy; exact hy) hS (ih _ w hL' hn' hrest hS hr)
        intro j oj hoj hne hun hno
        have hjn := (Array.getElem?_eq_some_iff.1 hoj).1
        rcases hoth' j (mskOf ops oj) (by rw [hmi, hoj]; rfl) with (h1 | h1) | h1
        · omega
        · rw [Nat.zero_add, ← hL.2 j hjn, hun] at h1
          cases h1
        · simp only [Bool.false_eq_true, if_false] at h1
          rcases h1 with h1 | h1
          · exfalso
            simp only [mskOf, maskOf_test, decide_eq_true_eq, List.mem_map, List.mem_filter] at h1
            obtain ⟨e, ⟨he, hbd⟩, heq⟩ := h1
            exact hno e (by simpa using he) hbd heq
          · exact apart_of h1.1 h1.2
  | .fork i p j q, listed, L, a, w, hL, hn, hok, hS, h => by
    have hmi : ∀ j, ms[j]? = (ops[j]?).map (mskOf ops) := fun j => by rw [hms, List.getElem?_map, Array.getElem?_toList]
    cases ho : ops[i]? with
    | none => simp [PlanR, ho] at h
    | some o =>
      cases ho2 : ops[j]? with
      | none => simp [PlanR, ho, ho2] at h
      | some o2 =>
        have hin := (Array.getElem?_eq_some_iff.1 ho).1
        have hjn2 := (Array.getElem?_eq_some_iff.1 ho2).1
        simp only [planM, hmi, ho, ho2, Option.map_some, Bool.and_eq_true, Bool.not_eq_true', beq_iff_eq] at hok
        obtain ⟨⟨⟨⟨⟨⟨⟨hb1, hb2⟩, ha1⟩, ha2⟩, honly⟩, hlen⟩, hp⟩, hq⟩ := hok
        have hlen' := Nat.eq_of_beq_eq_true hlen
        have ih1 := plan_sound ops hs hQ ms hms p (listed.setIfInBounds i true) (L ||| 1 <<< i)
        have ih2 := plan_sound ops hs hQ ms hms q (listed.setIfInBounds j true) (L ||| 1 <<< j)
        have hready : i ∈ Region.ready .any ops listed := mem_ready.2 ⟨by rw [hL.2 i hin]; exact hb1, o, ho, aft_sub hL ha1 hn⟩
        have honly' := onlyM_spec ms 0 honly
        simp only [PlanR, ho, ho2] at h
        obtain ⟨hk1, hk2⟩ := h
        refine ⟨fun h0 => (by rw [h0] at hready; cases hready), fun k hk => ?_⟩
        obtain ⟨h0, ok, hok', hall⟩ := mem_ready.1 hk
        have hkn := (Array.getElem?_eq_some_iff.1 hok').1
        have hc : k = i ∨ k = j := by
          rcases honly' k (mskOf ops ok) (by rw [hmi, hok']; rfl) with h1 | h1 | h1 | h1
          · exact .inl (by omega)
          · exact .inr (by omega)
          · rw [Nat.zero_add, ← hL.2 k hkn, h0] at h1
            cases h1
          · exact absurd (notready hL hall) h1
        rcases hc with rfl | rfl
        · exact op_of ho (fun a' w' hS' hr => ih1 a' w' (hL.set k) (bit_lt hin hn) hp hS' hr) hk1
        · show wpOp P ops Q k (fun a' w' => S w' ∧ wpAnyH P .any ops Q S p.len (listed.setIfInBounds k true) a' w') a w
          rw [hlen']
          exact op_of ho2 (fun a' w' hS' hr => ih2 a' w' (hL.set k) (bit_lt hjn2 hn) hq hS' hr) hk2
/-- A region that draws, along a plan that is checked once. -/
theorem plan_region {id : Nat} {ops : Array Oper} {a : Act} {w : World} (ms : List Msk) (pl : Plan) (hm : P.follows .mixedOrders = true)
    (hms : (Region.noSelect ops && (Nat.beq pl.len ops.size && eqM ms ops.toList ops)) = true) (hok : planM ms pl 0 = true)
    (hQ : ∀ c a d v w, Q (.panic c) (Act.put a d v) w → Q (.panic c) a w) (hS : S w.drew) (h : PlanR P Q S ops pl a w.drew) : (Code.region id ops true).wp P Q a w := by
  simp only [Bool.and_eq_true] at hms
  obtain ⟨h1, h2, h3⟩ := hms
  refine wp_region_held (S := S) hm ?_
  have := plan_sound ops h1 hQ ms (eqM_spec _ _ _ h3) pl (Array.replicate ops.size false) 0 a w.drew ⟨by simp, fun j hj => by simp [hj]⟩ (fun k hk => by simp at hk) hok hS h
  rw [Nat.eq_of_beq_eq_true h2] at this
  exact this
theorem first_take {o : Oper} {gs : Option (Option Tmp × Bool)} {G : Act → World → Prop} {a a' : Act} {w : World} {v : Value} (hw : wantR gs a.tmps = true)
    (hv : ∀ w, S w → (execOp a.eval o).run P w = .ok (.value v) w) (ha : a.put o.dst v = a') (h : G a' w) : First P S o gs G a w := by
  subst ha
  exact ⟨v, .inl ⟨hw, hv⟩, h⟩
/-- One way of a fork: a call. -/
theorem br_call {R : World → Prop} {G : Act → World → Prop} {o : Oper} {gs : Option (Option Tmp × Bool)} {a a' : Act} {w : World} {x : Operand} {xs : Array Operand} {ts : Array TypeId} {f : FuncId} {args : Array Value} {v : Value} (hw : wantR gs a.tmps = true)
    (ho : o.op = .call { callee := .value x, args := xs, argTypes := ts }) (hx : a.eval x = .func (.func f) #[] #[]) (hf : ∀ (args : Array Value) (w : World), (callFunc f args).run P w = .ok (.enter f args) w) (hargs : xs.map a.eval = args)
    (hc : Calls P f args w fun e w' => e = .returned v ∧ S w' ∧ R w') (ha : a.put o.dst v = a') (h : ∀ w', S w' → R w' → G a' w') : Alone P Q S o gs G a w := by
  subst ha
  intro K hK
  simp only [hw, if_true]
  unfold Oper.wp
  rw [run_callv ho hx hf hargs]
  refine Calls.mono hc fun e w' ⟨he, hS, hR⟩ => ?_
  subst he
  exact hK.out _ _ hS (h w' hS hR)
/-- One way of a fork: an operation that makes, or stores. -/
theorem br_make {G : Act → World → Prop} {o : Oper} {gs : Option (Option Tmp × Bool)} {a a' : Act} {w w' : World} {v : Value} (hw : wantR gs a.tmps = true) (hr : (execOp a.eval o).run P w = .ok (.value v) w') (hS : S w') (ha : a.put o.dst v = a') (h : G a' w') : Alone P Q S o gs G a w := by
  subst ha
  intro K hK
  simp only [hw, if_true]
  unfold Oper.wp
  rw [hr]
  exact hK.out _ _ hS h
end
end Go.Proofs.YtmdhbbibghpijaaDoor
