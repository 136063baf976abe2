/- Slots by what has come up; steps of a region that draws, by what holds. Nothing of the program. -/
import Derived.Test.YtglokhpgjfoneacEvery
namespace Go.Proofs.Ytglokhpgjfoneac
open Go.RowKit

/-- What has come up has its value in its slot; all other slots are as they were. D: an operation's number, its slot. -/
structure At (a0 : Act) (D : List (Nat × Nat)) (val : Nat → Value) (L : Nat) (a : Act) : Prop where
  defers : a.defers = a0.defers
  size : a.tmps.size = a0.tmps.size
  other : ∀ k, (∀ p ∈ D, p.2 ≠ k) → a.tmps.getD k undef = a0.tmps.getD k undef
  have_ : ∀ p ∈ D, L.testBit p.1 = true → a.tmps.getD p.2 undef = val p.1
theorem At.eval {a0 : Act} {D : List (Nat × Nat)} {val : Nat → Value} {L : Nat} {a : Act} (h : At a0 D val L a) (k : Nat) (hk : (D.all fun p => p.2 != k) = true) : a.eval (.tmp k) = a0.eval (.tmp k) :=
  h.other k (fun p hp => by simpa using List.all_eq_true.1 hk p hp)
theorem At.got {a0 : Act} {D : List (Nat × Nat)} {val : Nat → Value} {L : Nat} {a : Act} (h : At a0 D val L a) (i k : Nat) (hk : (D.contains (i, k)) = true) (hb : L.testBit i = true) : a.eval (.tmp k) = val i :=
  h.have_ (i, k) (List.contains_iff_mem.1 hk) hb
theorem testBit_add (L i j : Nat) : (L ||| 1 <<< i).testBit j = (L.testBit j || decide (i = j)) := by rw [Nat.testBit_or, Nat.one_shiftLeft, Nat.testBit_two_pow]
theorem testBit_one {L i j : Nat} (h : i ≠ j) : (L ||| 1 <<< i).testBit j = L.testBit j := by rw [testBit_add]; simp [h]
theorem testBit_self {L i : Nat} : (L ||| 1 <<< i).testBit i = true := by rw [testBit_add]; simp
theorem getD_set {xs : Array Value} {d k : Nat} {v : Value} (hd : d < xs.size) : (xs.setIfInBounds d v).getD k undef = if d = k then v else xs.getD k undef := by
  by_cases e : d = k
  · subst e
    rw [if_pos rfl, Array.getD_eq_getD_getElem?, Array.getElem?_setIfInBounds_self_of_lt hd]
    rfl
  · rw [if_neg e, Array.getD_eq_getD_getElem?, Array.getElem?_setIfInBounds_ne e, Array.getD_eq_getD_getElem?]
theorem At.step {a0 : Act} {D : List (Nat × Nat)} {val : Nat → Value} {L : Nat} {a : Act} (h : At a0 D val L a) (val' : Nat → Value) (j d : Nat) (v : Value) (hj : D.contains (j, d) = true)
    (hD : (D.all fun p => (p.2 == d) == (p.1 == j)) = true) (hd : d < a0.tmps.size) (hv : val' j = v) (hv' : ∀ k, k ≠ j → L.testBit k = true → val' k = val k) :
    At a0 D val' (L ||| 1 <<< j) (a.put (some d) v) := by
  have hD' : ∀ p ∈ D, p.2 = d ↔ p.1 = j := fun p hp => by
    have h1 : ((p.2 == d) == (p.1 == j)) = true := List.all_eq_true.1 hD p hp
    by_cases e1 : p.2 = d <;> by_cases e2 : p.1 = j <;> simp_all
  have hsz : d < a.tmps.size := by rw [h.size]; exact hd
  have hjm := List.contains_iff_mem.1 hj
  refine ⟨h.defers, by simp [Act.put, h.size], fun k hk => ?_, fun p hp hb => ?_⟩
  · show (a.tmps.setIfInBounds d v).getD k undef = _
    rw [getD_set hsz, if_neg (hk _ hjm)]
    exact h.other k hk
  · show (a.tmps.setIfInBounds d v).getD p.2 undef = _
    rw [getD_set hsz]
    by_cases e : p.1 = j
    · rw [if_pos ((hD' p hp).2 e).symm, e, hv]
    · rw [if_neg (fun e2 => e ((hD' p hp).1 e2.symm))]
      rw [testBit_one (Ne.symm e)] at hb
      rw [hv' p.1 e hb]
      exact h.have_ p hp hb
/-- An operation with no slot of its own. -/
theorem At.more {a0 : Act} {D : List (Nat × Nat)} {val : Nat → Value} {L : Nat} {a : Act} (h : At a0 D val L a) (j : Nat) (hj : (D.all fun p => p.1 != j) = true) : At a0 D val (L ||| 1 <<< j) a :=
  ⟨h.defers, h.size, h.other, fun p hp hb => h.have_ p hp (by rwa [testBit_one (fun e => by have := List.all_eq_true.1 hj p hp; simp [e] at this)] at hb)⟩
theorem At.start (a0 : Act) (D : List (Nat × Nat)) (val : Nat → Value) (L : Nat) (h : (D.all fun p => !L.testBit p.1) = true) : At a0 D val L a0 :=
  ⟨rfl, rfl, fun _ _ => rfl, fun p hp hb => by have := List.all_eq_true.1 h p hp; rw [hb] at this; cases this⟩
def putAll (a : Act) (D : List (Nat × Nat)) (val : Nat → Value) : Act := D.foldl (fun a p => a.put (some p.2) (val p.1)) a
theorem putAll_size (val : Nat → Value) : ∀ (D : List (Nat × Nat)) (a : Act), (putAll a D val).tmps.size = a.tmps.size ∧ (putAll a D val).defers = a.defers
  | [], a => ⟨rfl, rfl⟩
  | p :: D, a => by
    have := putAll_size val D (a.put (some p.2) (val p.1))
    exact ⟨this.1.trans (by simp [Act.put]), this.2⟩
theorem putAll_other (val : Nat → Value) (k : Nat) : ∀ (D : List (Nat × Nat)) (a : Act), (∀ p ∈ D, p.2 ≠ k) → (∀ p ∈ D, p.2 < a.tmps.size) → (putAll a D val).tmps.getD k undef = a.tmps.getD k undef
  | [], _, _, _ => rfl
  | p :: D, a, h, hs => by
    have h1 := putAll_other val k D (a.put (some p.2) (val p.1)) (fun q hq => h q (by simp [hq])) (fun q hq => by simpa [Act.put] using hs q (by simp [hq]))
    refine h1.trans ?_
    show (a.tmps.setIfInBounds p.2 (val p.1)).getD k undef = _
    rw [getD_set (hs p (by simp)), if_neg (h p (by simp))]
theorem putAll_have (val : Nat → Value) : ∀ (D : List (Nat × Nat)) (a : Act), (D.map (·.2)).Nodup → (∀ p ∈ D, p.2 < a.tmps.size) → ∀ p ∈ D, (putAll a D val).tmps.getD p.2 undef = val p.1
  | [], _, _, _, p, hp => by cases hp
  | q :: D, a, hn, hs, p, hp => by
    simp only [List.map_cons, List.nodup_cons] at hn
    have hs' : ∀ r ∈ D, r.2 < (a.put (some q.2) (val q.1)).tmps.size := fun r hr => by simpa [Act.put] using hs r (by simp [hr])
    rcases List.mem_cons.1 hp with rfl | hp
    · refine (putAll_other val p.2 D _ (fun r hr e => hn.1 (e ▸ List.mem_map_of_mem hr)) hs').trans ?_
      show (a.tmps.setIfInBounds p.2 (val p.1)).getD p.2 undef = _
      rw [getD_set (hs p (by simp)), if_pos rfl]
    · exact putAll_have val D _ hn.2 hs' p hp
theorem At.full {a0 : Act} {D : List (Nat × Nat)} {val : Nat → Value} {L : Nat} {a : Act} (h : At a0 D val L a) (hn : (D.map (·.2)).Nodup) (hs : ∀ p ∈ D, p.2 < a0.tmps.size) (hL : ∀ p ∈ D, L.testBit p.1 = true) : a = putAll a0 D val := by
  obtain ⟨t, ds⟩ := a
  have h1 := putAll_size val D a0
  have he : t = (putAll a0 D val).tmps := by
    apply Array.ext
    · exact h.size.trans h1.1.symm
    · intro k hk1 hk2
      have e1 : t[k] = t.getD k undef := by simp [Array.getD, hk1]
      have e2 : (putAll a0 D val).tmps[k] = (putAll a0 D val).tmps.getD k undef := by simp [Array.getD, hk2]
      rw [e1, e2]
      by_cases hk : ∃ p ∈ D, p.2 = k
      · obtain ⟨p, hp, rfl⟩ := hk
        rw [putAll_have val D a0 hn hs p hp]
        exact h.have_ p hp (hL p hp)
      · have hk' : ∀ p ∈ D, p.2 ≠ k := fun p hp e => hk ⟨p, hp, e⟩
        rw [putAll_other val k D a0 hk' hs]
        exact h.other k hk'
  have hd : ds = (putAll a0 D val).defers := h.defers.trans h1.2.symm
  rw [he, hd]

section
variable {P : Program} {Q : Exit → Act → World → Prop} {S : World → Prop} {End : Act → World → Prop}
theorem seqE_region {id : Nat} {ops : Array Oper} {a : Act} {w : World} (ms : List Msk) (sch : List (Nat × Bool)) (hm : P.follows .mixedOrders = true)
    (hms : (Region.noSelect ops && (Nat.ble sch.length ops.size && eqM ms ops.toList ops)) = true) (hok : seqP ms sch 0 = true)
    (hQ : ∀ c a d v w, Q (.panic c) (Act.put a d v) w → Q (.panic c) a w) (hS : S w.drew)
    (h : SeqE P Q S (fun a w => S w → ∀ listed, Listed ops.size listed (listAll sch 0) → (∀ k, (listAll sch 0).testBit k = true → k < ops.size) → wpAnyH P .any ops Q S (ops.size - sch.length) listed a w) (rowsOf ops sch) a w.drew) : (Code.region id ops true).wp P Q a w := by
  simp only [Bool.and_eq_true] at hms
  obtain ⟨h1, h2, h3⟩ := hms
  refine wp_region_held (S := S) hm ?_
  have h4 := Nat.le_of_ble_eq_true h2
  have := seqE_sound ops h1 hQ ms (eqM_spec _ _ _ h3) (ops.size - sch.length) sch (Array.replicate ops.size false) 0 a w.drew ⟨by simp, fun j hj => by simp [hj]⟩ (fun k hk => by simp at hk) hok hS h
  rwa [Nat.add_sub_cancel' h4] at this
theorem seqE_nil {a : Act} {w : World} (h : End a w) : SeqE P Q S End [] a w := h
theorem seqE_take {o : Oper} {gs : Option (Option Tmp × Bool)} {rest : List (Option RowR)} {a a' : Act} {w : World} {v : Value} (hw : wantR gs a.tmps = true)
    (hv : ∀ w, S w → (execOp a.eval o).run P w = .ok (.value v) w) (ha : a.put o.dst v = a') (h : SeqE P Q S End rest a' w) : SeqE P Q S End (some ⟨o, gs, false⟩ :: rest) a w :=
  .inr ⟨rfl, v, .inl ⟨hw, hv⟩, ha ▸ h⟩
theorem seqE_skip {o : Oper} {gs : Option (Option Tmp × Bool)} {c : Bool} {rest : List (Option RowR)} {a a' : Act} {w : World} (hS : S w) (hw : wantR gs a.tmps = false)
    (ha : a.put o.dst undef = a') (h : SeqE P Q S End rest a' w) : SeqE P Q S End (some ⟨o, gs, c⟩ :: rest) a w := by
  subst ha
  cases c
  · exact .inr ⟨rfl, undef, .inr ⟨hw, rfl⟩, h⟩
  · refine .inl ⟨rfl, fun K hK => ?_⟩
    simp only [hw, Bool.false_eq_true, if_false]
    exact hK.out _ _ hS h
theorem seqE_callv {o : Oper} {gs : Option (Option Tmp × Bool)} {rest : List (Option RowR)} {a a' : Act} {w : World} {x : Operand} {xs : Array Operand} {ts : Array TypeId} {f : FuncId} {args : Array Value} {v : Value} (hw : wantR gs a.tmps = true)
    (ho : o.op = .call { callee := .value x, args := xs, argTypes := ts }) (hx : a.eval x = .func (.func f) #[] #[]) (hf : ∀ (args : Array Value) (w : World), (callFunc f args).run P w = .ok (.enter f args) w) (hargs : xs.map a.eval = args)
    (hc : Calls P f args w fun e w' => e = .returned v ∧ S w') (ha : a.put o.dst v = a') (h : ∀ w', S w' → SeqE P Q S End rest a' w') :
    SeqE P Q S End (some ⟨o, gs, true⟩ :: rest) a w := by
  subst ha
  refine .inl ⟨rfl, fun K hK => ?_⟩
  simp only [hw, if_true]
  unfold Oper.wp
  rw [run_callv ho hx hf hargs]
  refine Calls.mono hc fun e w' ⟨he, hS⟩ => ?_
  subst he
  exact hK.out _ _ hS (h w' hS)

/-- A call, as a step. -/
theorem wp_callv {o : Oper} {a : Act} {w : World} {K : Act → World → Prop} {x : Operand} {xs : Array Operand} {ts : Array TypeId} {f : FuncId} {args : Array Value} {v : Value} {R : World → Prop}
    (ho : o.op = .call { callee := .value x, args := xs, argTypes := ts }) (hx : a.eval x = .func (.func f) #[] #[]) (hf : ∀ (args : Array Value) (w : World), (callFunc f args).run P w = .ok (.enter f args) w) (hargs : xs.map a.eval = args)
    (hc : Calls P f args w fun e w' => e = .returned v ∧ R w') (h : ∀ w', R w' → K (a.put o.dst v) w') : o.wp P a w K Q := by
  unfold Oper.wp
  rw [run_callv ho hx hf hargs]
  refine Calls.mono hc fun e w' ⟨he, hS⟩ => ?_
  subst he
  exact h w' hS
/-- An operation that yields a value, as a step. -/
theorem wp_value {o : Oper} {a : Act} {w w' : World} {K : Act → World → Prop} {v : Value} (hr : (execOp a.eval o).run P w = .ok (.value v) w') (h : K (a.put o.dst v) w') : o.wp P a w K Q := by
  unfold Oper.wp
  rw [hr]
  exact h
/-! Each waits for earlier ones alone. -/
def lowFrom : Nat → List Msk → Bool
  | _, [] => true
  | i, m :: ms => Nat.blt m.aft (2 ^ i) && lowFrom (i + 1) ms
theorem lowFrom_spec : ∀ (ms : List Msk) (s : Nat), lowFrom s ms = true → ∀ j m, ms[j]? = some m → m.aft < 2 ^ (s + j)
  | [], _, _, j, m, hj => by simp at hj
  | x :: ms, s, h, j, m, hj => by
    simp only [lowFrom, Bool.and_eq_true] at h
    cases j with
    | zero =>
      obtain rfl : x = m := by simpa using hj
      exact Nat.le_of_ble_eq_true h.1
    | succ j =>
      have := lowFrom_spec ms (s + 1) h.2 j m (by simpa using hj)
      rwa [show s + 1 + j = s + (j + 1) by omega] at this
theorem least_missing {L : Nat} : ∀ n, missing L n ≠ 0 → ∃ i, i < n ∧ L.testBit i = false ∧ ∀ k, k < i → L.testBit k = true
  | 0, h => (h rfl).elim
  | n + 1, h => by
    by_cases h0 : missing L n = 0
    · refine ⟨n, by omega, ?_, fun k hk => missing_zero h0 k hk⟩
      unfold missing at h
      cases hb : L.testBit n
      · rfl
      · rw [hb, h0] at h; simp at h
    · obtain ⟨i, hi, h1, h2⟩ := least_missing n h0
      exact ⟨i, by omega, h1, h2⟩
theorem sub_of_test {M L : Nat} (h : ∀ k, M.testBit k = true → L.testBit k = true) : M &&& L = M := by
  apply Nat.eq_of_testBit_eq
  intro k
  rw [Nat.testBit_and]
  cases hk : M.testBit k
  · simp
  · simp [h k hk]
theorem test_of_sub {M L : Nat} (h : M &&& L = M) (k : Nat) (hk : M.testBit k = true) : L.testBit k = true := by
  rw [← h, Nat.testBit_and, Bool.and_eq_true] at hk
  exact hk.2
/-- The rest of a region, by what holds. -/
theorem every_rest (ops : Array Oper) (ms : List Msk) (hms : ms = ops.toList.map (mskOf ops)) (hlow : lowFrom 0 ms = true) (Inv : Nat → Act → World → Prop)
    (hstep : ∀ i o m L a w, ops[i]? = some o → ms[i]? = some m → Inv L a w → L.testBit i = false → m.aft &&& L = m.aft → if wantR (gslot ops o) a.tmps = true then o.wp P a w (fun a' w' => S w' ∧ Inv (L ||| 1 <<< i) a' w') Q else S w ∧ Inv (L ||| 1 <<< i) (a.put o.dst undef) w)
    (hend : ∀ L a w, Inv L a w → (∀ k, k < ops.size → L.testBit k = true) → Q .normal a w)
    (fuel : Nat) (listed : Array Bool) (L : Nat) (a : Act) (w : World) (hL : Listed ops.size listed L) (hn : ∀ k, L.testBit k = true → k < ops.size) (hf : missing L ops.size = fuel) (hI : Inv L a w) : wpAnyH P .any ops Q S fuel listed a w := by
  have hmi : ∀ j, ms[j]? = (ops[j]?).map (mskOf ops) := fun j => by rw [hms, List.getElem?_map, Array.getElem?_toList]
  refine every_sound ops Inv (fun i o L a w ho hI hb ha => hstep i o (mskOf ops o) L a w ho (by rw [hmi, ho]; rfl) hI hb ha) (fun L a w _ hm => ?_) (fun L a w hI hm => hend L a w hI (missing_zero hm)) fuel listed L a w hL hn hf hI
  obtain ⟨i, hi, h1, h2⟩ := least_missing _ hm
  have ho : ops[i]? = some ops[i] := Array.getElem?_eq_getElem hi
  refine ⟨i, ops[i], ho, h1, sub_of_test fun k hk => h2 k ?_⟩
  have hlt := lowFrom_spec ms 0 hlow i (mskOf ops ops[i]) (by rw [hmi, ho]; rfl)
  rw [Nat.zero_add] at hlt
  apply Classical.byContradiction
  intro hge
  have := Nat.testBit_lt_two_pow (Nat.lt_of_lt_of_le hlt (Nat.pow_le_pow_right (by decide) (Nat.le_of_not_lt hge)))
  rw [hk] at this
  cases this
end
end Go.Proofs.Ytglokhpgjfoneac
