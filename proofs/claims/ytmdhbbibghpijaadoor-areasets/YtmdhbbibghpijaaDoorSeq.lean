/- A region that draws its order, walked along one order: what yields the same in every world of a condition S is taken when it may come up, a call when it alone may. Nothing of the program. -/
import Derived.Test.YtmdhbbibghpijaaDoorMem
import Derived.Deep.RegionHeld3
namespace Go.Proofs.YtmdhbbibghpijaaDoor
open Go.RowKit

/-- An operation of a region, the slot of its guard, and whether it stands alone when its turn comes. -/
structure RowR where
  o : Oper
  gs : Option (Option Tmp × Bool)
  c : Bool
def gslot (ops : Array Oper) (o : Oper) : Option (Option Tmp × Bool) := match o.guard with
  | some (g, want) => some ((ops[g]?).bind (·.dst), want)
  | none => none
/-- Is the operation wanted, by what lies in its guard's slot? -/
def wantR (gs : Option (Option Tmp × Bool)) (tmps : Array Value) : Bool := match gs with
  | none => true
  | some (d, want) => (match d.bind (tmps[·]?) with
    | some (.bool b) => some b
    | _ => none) == some want
theorem wantR_eq (ops : Array Oper) (o : Oper) (tmps : Array Value) : wantR (gslot ops o) tmps = Region.wanted o (yielded ops tmps) := by
  unfold wantR gslot Region.wanted yielded
  cases o.guard with
  | none => rfl
  | some p => rfl

def rowAt (ops : Array Oper) (ic : Nat × Bool) : Option RowR := match ops[ic.1]? with
  | some o => some ⟨o, gslot ops o, ic.2⟩
  | none => none
def rowsOf (ops : Array Oper) (sch : List (Nat × Bool)) : List (Option RowR) := sch.map (rowAt ops)
/-- Numbers as bits. -/
def maskOf (l : List Nat) : Nat := l.foldr (fun k m => m ||| 1 <<< k) 0
theorem maskOf_test (l : List Nat) (k : Nat) : (maskOf l).testBit k = decide (k ∈ l) := by
  induction l with
  | nil => simp [maskOf]
  | cons x l ih =>
    have : maskOf (x :: l) = maskOf l ||| 1 <<< x := rfl
    rw [this, Nat.testBit_or, ih, Nat.one_shiftLeft, Nat.testBit_two_pow]
    by_cases h : k = x
    · subst h; simp
    · simp [h, Ne.symm h]
/-- What an operation waits for, looks at and writes, as bits. -/
structure Msk where
  aft : Nat
  rd : Nat
  dst : Nat
def mskOf (ops : Array Oper) (o : Oper) : Msk := ⟨maskOf ((o.after.toList.filter (Region.binds .any)).map (·.on)), maskOf (o.looksAt ops), maskOf o.dst.toList⟩
def othersM (i : Nat) (c : Bool) (x : Msk) (L : Nat) : Nat → List Msk → Bool
  | _, [] => true
  | j, y :: ys => (j == i || L.testBit j || (if c then y.aft &&& L != y.aft else y.aft.testBit i || (x.dst &&& (y.rd ||| y.dst) == 0 && y.dst &&& x.rd == 0))) && othersM i c x L (j + 1) ys
/-- May the region be walked in this order? -/
def seqM (ms : List Msk) : List (Nat × Bool) → Nat → Bool
  | [], L => L == 2 ^ ms.length - 1
  | (i, c) :: rest, L => match ms[i]? with
    | none => false
    | some x => !L.testBit i && (x.aft &&& L == x.aft) && othersM i c x L 0 ms && seqM ms rest (L ||| 1 <<< i)

theorem othersM_spec {i : Nat} {c : Bool} {x : Msk} {L : Nat} : ∀ (ys : List Msk) (s : Nat), othersM i c x L s ys = true → ∀ j y, ys[j]? = some y → (s + j = i ∨ L.testBit (s + j) = true) ∨ (if c then y.aft &&& L ≠ y.aft else y.aft.testBit i = true ∨ (x.dst &&& (y.rd ||| y.dst) = 0 ∧ y.dst &&& x.rd = 0))
  | [], _, _, j, y, hj => by simp at hj
  | y0 :: ys, s, h, j, y, hj => by
    simp only [othersM, Bool.and_eq_true] at h
    cases j with
    | zero =>
      obtain rfl : y0 = y := by simpa using hj
      have h1 := h.1
      cases c <;> simpa [or_assoc] using h1
    | succ j =>
      have := othersM_spec ys (s + 1) h.2 j y (by simpa using hj)
      rw [show s + (j + 1) = s + 1 + j from by omega]
      exact this

theorem and_zero_test {a b : Nat} (h : a &&& b = 0) (k : Nat) (h1 : a.testBit k = true) : b.testBit k = false := by
  have := congrArg (fun n => n.testBit k) h
  simp [Nat.testBit_and, h1] at this
  exact this
theorem apart_of {ops : Array Oper} {x y : Oper} (h1 : (mskOf ops x).dst &&& ((mskOf ops y).rd ||| (mskOf ops y).dst) = 0) (h2 : (mskOf ops y).dst &&& (mskOf ops x).rd = 0) : x.apart ops y = true := by
  have k1 : ∀ d, x.dst = some d → d ∉ y.looksAt ops ∧ y.dst ≠ some d := fun d hd => by
    have := and_zero_test h1 d (by simp [mskOf, maskOf_test, hd])
    simpa [mskOf, maskOf_test, Nat.testBit_or] using this
  have k2 : ∀ d, y.dst = some d → d ∉ x.looksAt ops := fun d hd => by
    have := and_zero_test h2 d (by simp [mskOf, maskOf_test, hd])
    simpa [mskOf, maskOf_test] using this
  unfold Oper.apart
  cases hx : x.dst with
  | none =>
    cases hy : y.dst with
    | none => rfl
    | some e => simp [k2 e hy]
  | some d =>
    cases hy : y.dst with
    | none => simp [(k1 d hx).1]
    | some e =>
      have := (k1 d hx).2
      rw [hy] at this
      simp [(k1 d hx).1, k2 e hy]
      exact fun h => this (by rw [h])

/-- The bits of L are what has come up. -/
def Listed (n : Nat) (listed : Array Bool) (L : Nat) : Prop := listed.size = n ∧ ∀ j, j < n → listed.getD j true = L.testBit j
theorem Listed.false_eq {n : Nat} {listed : Array Bool} {L : Nat} (h : Listed n listed L) (j : Nat) (hj : j < n) : listed.getD j false = L.testBit j := by
  have := h.2 j hj
  have hl : j < listed.size := by rw [h.1]; exact hj
  simpa [Array.getD, hl] using this
theorem Listed.set {n : Nat} {listed : Array Bool} {L : Nat} (h : Listed n listed L) (i : Nat) : Listed n (listed.setIfInBounds i true) (L ||| 1 <<< i) := by
  refine ⟨by simp [h.1], fun j hj => ?_⟩
  have hl : j < listed.size := by rw [h.1]; exact hj
  have := h.2 j hj
  rw [Nat.testBit_or, Nat.one_shiftLeft, Nat.testBit_two_pow, ← this]
  by_cases hij : i = j
  · subst hij; simp [hl]
  · simp [hij, Array.getElem?_setIfInBounds_ne hij]

/-- The walk along the order. -/
def SeqR (P : Program) (Q : Exit → Act → World → Prop) (S : World → Prop) : List (Option RowR) → Act → World → Prop
  | [], a, w => Q .normal a w
  | none :: _, _, _ => False
  | some r :: rest, a, w =>
    (r.c = true ∧ ∀ K : Act → World → Prop, Shut (∀ a w, S w → SeqR P Q S rest a w → K a w) → if wantR r.gs a.tmps = true then r.o.wp P a w K Q else K (a.put r.o.dst undef) w) ∨
    (r.c = false ∧ ∃ v, ((wantR r.gs a.tmps = true ∧ ∀ w, S w → (execOp a.eval r.o).run P w = .ok (.value v) w) ∨ (wantR r.gs a.tmps = false ∧ v = undef)) ∧ SeqR P Q S rest (a.put r.o.dst v) w)

section
variable {P : Program} {Q : Exit → Act → World → Prop} {S : World → Prop}
theorem aft_sub {ops : Array Oper} {o : Oper} {n : Nat} {listed : Array Bool} {L : Nat} (hL : Listed n listed L) (h : (mskOf ops o).aft &&& L = (mskOf ops o).aft) (hn : ∀ k, L.testBit k = true → k < n) :
    ∀ e ∈ o.after, Region.binds .any e = true → listed.getD e.on false = true := fun e he hb => by
  have h1 : (mskOf ops o).aft.testBit e.on = true := by
    simp only [mskOf, maskOf_test, decide_eq_true_eq, List.mem_map, List.mem_filter]
    exact ⟨e, ⟨by simpa using he, hb⟩, rfl⟩
  have h2 : L.testBit e.on = true := by
    rw [← h, Nat.testBit_and, Bool.and_eq_true] at h1
    exact h1.2
  rw [hL.false_eq _ (hn _ h2)]
  exact h2

theorem seq_sound (ops : Array Oper) (hs : Region.noSelect ops = true) (hQ : ∀ c a d v w, Q (.panic c) (Act.put a d v) w → Q (.panic c) a w) (ms : List Msk) (hms : ms = ops.toList.map (mskOf ops)) :
    ∀ (sch : List (Nat × Bool)) (listed : Array Bool) (L : Nat) (a : Act) (w : World), Listed ops.size listed L → (∀ k, L.testBit k = true → k < ops.size) → seqM ms sch L = true → S w → SeqR P Q S (rowsOf ops sch) a w → wpAnyH P .any ops Q S sch.length listed a w
  | [], listed, L, a, w, hL, hn, hok, _, h => by
    have hl : L = 2 ^ ops.size - 1 := by
      have := hok
      simp only [seqM, hms, beq_iff_eq, List.length_map, Array.length_toList] at this
      exact this
    have : Region.ready .any ops listed = [] := by
      apply List.eq_nil_iff_forall_not_mem.2
      intro j hj
      obtain ⟨h0, o, ho, _⟩ := mem_ready.1 hj
      have hjn := (Array.getElem?_eq_some_iff.1 ho).1
      rw [hL.2 j hjn, hl, Nat.testBit_two_pow_sub_one] at h0
      simp at h0
      omega
    exact wpAnyH_done this h 0
  | (i, c) :: rest, listed, L, a, w, hL, hn, hok, hS, h => by
    have hmi : ∀ j, ms[j]? = (ops[j]?).map (mskOf ops) := fun j => by rw [hms, List.getElem?_map, Array.getElem?_toList]
    cases ho : ops[i]? with
    | none => simp [rowsOf, rowAt, ho, SeqR] at h
    | some o =>
      have hin := (Array.getElem?_eq_some_iff.1 ho).1
      simp only [seqM, hmi, ho, Option.map_some, Bool.and_eq_true, Bool.not_eq_true', beq_iff_eq] at hok
      obtain ⟨⟨⟨hb, ha⟩, hoth⟩, hrest⟩ := hok
      have ih := seq_sound ops hs hQ ms hms rest (listed.setIfInBounds i true) (L ||| 1 <<< i)
      have hL' := hL.set i
      have hn' : ∀ k, (L ||| 1 <<< i).testBit k = true → k < ops.size := fun k hk => by
        rw [Nat.testBit_or, Nat.one_shiftLeft, Nat.testBit_two_pow, Bool.or_eq_true, decide_eq_true_eq] at hk
        rcases hk with hk | rfl
        · exact hn k hk
        · exact hin
      have hready : i ∈ Region.ready .any ops listed := mem_ready.2 ⟨by rw [hL.2 i hin]; exact hb, o, ho, aft_sub hL ha hn⟩
      have h' : SeqR P Q S (some ⟨o, gslot ops o, c⟩ :: rowsOf ops rest) a w := by simpa [rowsOf, rowAt, ho] using h
      have hoth' := othersM_spec ms 0 hoth
      rcases h' with ⟨hc, hk⟩ | ⟨hc, v, hy, hr⟩
      · simp only at hc
        subst hc
        refine ⟨fun h0 => (by rw [h0] at hready; cases hready), fun j hj => ?_⟩
        obtain ⟨h0, oj, hoj, hall⟩ := mem_ready.1 hj
        have hjn := (Array.getElem?_eq_some_iff.1 hoj).1
        have hji : j = i := by
          rcases hoth' j (mskOf ops oj) (by rw [hmi, hoj]; rfl) with (h1 | h1) | h1
          · omega
          · rw [Nat.zero_add, ← hL.2 j hjn, h0] at h1
            cases h1
          · exfalso
            simp only [if_true] at h1
            apply h1
            apply Nat.eq_of_testBit_eq
            intro k
            rw [Nat.testBit_and]
            cases hk' : (mskOf ops oj).aft.testBit k
            · simp
            · simp only [mskOf, maskOf_test, decide_eq_true_eq, List.mem_map, List.mem_filter] at hk'
              obtain ⟨e, ⟨he, hbd⟩, rfl⟩ := hk'
              have := hall e (by simpa using he) hbd
              rcases Nat.lt_or_ge e.on ops.size with hlt | hge
              · rw [hL.false_eq _ hlt] at this
                simp [this]
              · rw [Array.getD, dif_neg (by rw [hL.1]; omega)] at this
                cases this
        subst hji
        have hk' := hk (fun a' w' => S w' ∧ wpAnyH P .any ops Q S rest.length (listed.setIfInBounds j true) a' w') (fun a' w' hS' hr => ⟨hS', ih a' w' hL' hn' hrest hS' hr⟩)
        simp only [wantR_eq] at hk'
        unfold wpOp
        simp only [ho]
        split at hk'
        · rename_i hw
          rw [if_pos hw]
          exact .inl hk'
        · rename_i hw
          rw [if_neg hw]
          exact hk'
      · simp only at hc
        subst hc
        refine wpAnyH_first ho (Region.noSelect_spec hs) (fun c a w => hQ c a _ _ w) rest.length listed a w ?_ hready (by simp only [wantR_eq] at hy; exact hy) hS (ih _ w hL' hn' hrest hS hr)
        intro j oj hoj hne hun hno
        have hjn := (Array.getElem?_eq_some_iff.1 hoj).1
        rcases hoth' j (mskOf ops oj) (by rw [hmi, hoj]; rfl) with (h1 | h1) | h1
        · omega
        · rw [Nat.zero_add, ← hL.2 j hjn, hun] at h1
          cases h1
        · simp only [Bool.false_eq_true, if_false] at h1
          rcases h1 with h1 | h1
          · exfalso
            simp only [mskOf, maskOf_test, decide_eq_true_eq, List.mem_map, List.mem_filter] at h1
            obtain ⟨e, ⟨he, hbd⟩, heq⟩ := h1
            exact hno e (by simpa using he) hbd heq
          · exact apart_of h1.1 h1.2

def eqM : List Msk → List Oper → Array Oper → Bool
  | [], [], _ => true
  | m :: ms, o :: os, ops => (m.aft == (mskOf ops o).aft && (m.rd == (mskOf ops o).rd && m.dst == (mskOf ops o).dst)) && eqM ms os ops
  | _, _, _ => false
theorem eqM_spec : ∀ (ms : List Msk) (os : List Oper) (ops : Array Oper), eqM ms os ops = true → ms = os.map (mskOf ops)
  | [], [], _, _ => rfl
  | [], _ :: _, _, h => by simp [eqM] at h
  | _ :: _, [], _, h => by simp [eqM] at h
  | m :: ms, o :: os, ops, h => by
    simp only [eqM, Bool.and_eq_true, beq_iff_eq] at h
    obtain ⟨⟨h1, h2, h3⟩, h4⟩ := h
    rw [List.map_cons, ← eqM_spec ms os ops h4]
    congr 1
    cases m
    simp_all
/-- A region that draws, along an order that is checked once. -/
theorem seq_region {id : Nat} {ops : Array Oper} {a : Act} {w : World} (ms : List Msk) (sch : List (Nat × Bool)) (hm : P.follows .mixedOrders = true)
    (hms : (Region.noSelect ops && (Nat.beq sch.length ops.size && eqM ms ops.toList ops)) = true) (hok : seqM ms sch 0 = true)
    (hQ : ∀ c a d v w, Q (.panic c) (Act.put a d v) w → Q (.panic c) a w) (hS : S w.drew) (h : SeqR P Q S (rowsOf ops sch) a w.drew) : (Code.region id ops true).wp P Q a w := by
  simp only [Bool.and_eq_true] at hms
  obtain ⟨h1, h2, h3⟩ := hms
  refine wp_region_held (S := S) hm ?_
  have := seq_sound ops h1 hQ ms (eqM_spec _ _ _ h3) sch (Array.replicate ops.size false) 0 a w.drew ⟨by simp, fun j hj => by simp [hj]⟩ (fun k hk => by simp at hk) hok hS h
  rw [Nat.eq_of_beq_eq_true h2] at this
  exact this

theorem seq_nil {a : Act} {w : World} (h : Q .normal a w) : SeqR P Q S [] a w := h
/-- An operation that is wanted and yields v in every world of S. -/
theorem seq_take {o : Oper} {gs : Option (Option Tmp × Bool)} {rest : List (Option RowR)} {a a' : Act} {w : World} {v : Value} (hw : wantR gs a.tmps = true)
    (hv : ∀ w, S w → (execOp a.eval o).run P w = .ok (.value v) w) (ha : a.put o.dst v = a') (h : SeqR P Q S rest a' w) : SeqR P Q S (some ⟨o, gs, false⟩ :: rest) a w :=
  .inr ⟨rfl, v, .inl ⟨hw, hv⟩, ha ▸ h⟩
/-- An operation that is not wanted. -/
theorem seq_skip {o : Oper} {gs : Option (Option Tmp × Bool)} {c : Bool} {rest : List (Option RowR)} {a a' : Act} {w : World} (hS : S w) (hw : wantR gs a.tmps = false)
    (ha : a.put o.dst undef = a') (h : SeqR P Q S rest a' w) : SeqR P Q S (some ⟨o, gs, c⟩ :: rest) a w := by
  subst ha
  cases c
  · exact .inr ⟨rfl, undef, .inr ⟨hw, rfl⟩, h⟩
  · refine .inl ⟨rfl, fun K hK => ?_⟩
    simp only [hw, Bool.false_eq_true, if_false]
    exact hK.out _ _ hS h
/-- An operation that is wanted if b says so. -/
theorem seq_if {o : Oper} {gs : Option (Option Tmp × Bool)} {rest : List (Option RowR)} {a a' : Act} {w : World} (b : Bool) {v : Value} (hw : wantR gs a.tmps = b)
    (hv : b = true → ∀ w, S w → (execOp a.eval o).run P w = .ok (.value v) w) (ha : a.put o.dst (if b = true then v else undef) = a') (h : SeqR P Q S rest a' w) : SeqR P Q S (some ⟨o, gs, false⟩ :: rest) a w := by
  subst ha
  cases b
  · exact .inr ⟨rfl, undef, .inr ⟨hw, rfl⟩, h⟩
  · exact .inr ⟨rfl, v, .inl ⟨hw, hv rfl⟩, h⟩
/-- A call that is wanted: its contract says what it answers, and that S holds behind it. -/
theorem seq_call {o : Oper} {gs : Option (Option Tmp × Bool)} {rest : List (Option RowR)} {a a' : Act} {w : World} {f : FuncId} {args : Array Value} {v : Value} (hw : wantR gs a.tmps = true)
    (hr : (execOp a.eval o).run P w = .ok (.enter f args) w) (hc : Calls P f args w fun e w' => e = .returned v ∧ S w') (ha : a.put o.dst v = a') (h : ∀ w', S w' → SeqR P Q S rest a' w') :
    SeqR P Q S (some ⟨o, gs, true⟩ :: rest) a w := by
  subst ha
  refine .inl ⟨rfl, fun K hK => ?_⟩
  simp only [hw, if_true]
  unfold Oper.wp
  rw [hr]
  refine Calls.mono hc fun e w' ⟨he, hS⟩ => ?_
  subst he
  exact hK.out _ _ hS (h w' hS)
/-- A call of a function that is known, by the values of its arguments. -/
theorem run_callv {o : Oper} {a : Act} {w : World} {x : Operand} {xs : Array Operand} {ts : Array TypeId} {f : FuncId} {args : Array Value} (ho : o.op = .call { callee := .value x, args := xs, argTypes := ts })
    (hx : a.eval x = .func (.func f) #[] #[]) (hf : ∀ (args : Array Value) (w : World), (callFunc f args).run P w = .ok (.enter f args) w) (hargs : xs.map a.eval = args) :
    (execOp a.eval o).run P w = .ok (.enter f args) w := by
  have := hf args w
  unfold execOp
  simp only [ho, resolve, Deferred.ofValue, hx, invoke, Sem.run_bind, Sem.run_pure, Result.andThen_ok, hargs, Array.empty_append, Array.append_empty]
  exact this
theorem seq_callv {o : Oper} {gs : Option (Option Tmp × Bool)} {rest : List (Option RowR)} {a a' : Act} {w : World} {x : Operand} {xs : Array Operand} {ts : Array TypeId} {f : FuncId} {args : Array Value} {v : Value} (hw : wantR gs a.tmps = true)
    (ho : o.op = .call { callee := .value x, args := xs, argTypes := ts }) (hx : a.eval x = .func (.func f) #[] #[]) (hf : ∀ (args : Array Value) (w : World), (callFunc f args).run P w = .ok (.enter f args) w) (hargs : xs.map a.eval = args)
    (hc : Calls P f args w fun e w' => e = .returned v ∧ S w') (ha : a.put o.dst v = a') (h : ∀ w', S w' → SeqR P Q S rest a' w') :
    SeqR P Q S (some ⟨o, gs, true⟩ :: rest) a w := seq_call hw (run_callv ho hx hf hargs) hc ha h
/-- A call that is wanted if b says so. -/
theorem seq_call_if {o : Oper} {gs : Option (Option Tmp × Bool)} {rest : List (Option RowR)} {a a' : Act} {w : World} {f : FuncId} {args : Array Value} {v : Value} (hS : S w) (b : Bool) (hw : wantR gs a.tmps = b)
    (hr : b = true → (execOp a.eval o).run P w = .ok (.enter f args) w) (hc : b = true → Calls P f args w fun e w' => e = .returned v ∧ S w') (ha : a.put o.dst (if b = true then v else undef) = a') (h : ∀ w', S w' → SeqR P Q S rest a' w') :
    SeqR P Q S (some ⟨o, gs, true⟩ :: rest) a w := by
  subst ha
  cases b
  · exact seq_skip hS hw rfl (h w hS)
  · exact seq_call hw (hr rfl) (hc rfl) rfl h
end
end Go.Proofs.YtmdhbbibghpijaaDoor
