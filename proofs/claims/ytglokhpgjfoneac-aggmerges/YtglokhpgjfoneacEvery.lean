/- A region that draws its order, by what holds whatever has come up: for operations that make memory in any order; behind a walk along one order (Seq), or from the start. Nothing of the program. -/
import Derived.Test.YtglokhpgjfoneacSeq
namespace Go.Proofs.Ytglokhpgjfoneac
open Go.RowKit

/-- The walk along an order, up to some end. -/
def SeqE (P : Program) (Q : Exit → Act → World → Prop) (S : World → Prop) (End : Act → World → Prop) : List (Option RowR) → Act → World → Prop
  | [], a, w => End a w
  | none :: _, _, _ => False
  | some r :: rest, a, w =>
    (r.c = true ∧ ∀ K : Act → World → Prop, Shut (∀ a w, S w → SeqE P Q S End rest a w → K a w) → if wantR r.gs a.tmps = true then r.o.wp P a w K Q else K (a.put r.o.dst undef) w) ∨
    (r.c = false ∧ ∃ v, ((wantR r.gs a.tmps = true ∧ ∀ w, S w → (execOp a.eval r.o).run P w = .ok (.value v) w) ∨ (wantR r.gs a.tmps = false ∧ v = undef)) ∧ SeqE P Q S End rest (a.put r.o.dst v) w)
/-- May the region be walked in this order, so far? -/
def seqP (ms : List Msk) : List (Nat × Bool) → Nat → Bool
  | [], _ => true
  | (i, c) :: rest, L => match ms[i]? with
    | none => false
    | some x => !L.testBit i && (x.aft &&& L == x.aft) && othersM i c x L 0 ms && seqP ms rest (L ||| 1 <<< i)
def listAll : List (Nat × Bool) → Nat → Nat
  | [], L => L
  | (i, _) :: rest, L => listAll rest (L ||| 1 <<< i)

section
variable {P : Program} {Q : Exit → Act → World → Prop} {S : World → Prop}
theorem seqE_sound (ops : Array Oper) (hs : Region.noSelect ops = true) (hQ : ∀ c a d v w, Q (.panic c) (Act.put a d v) w → Q (.panic c) a w) (ms : List Msk) (hms : ms = ops.toList.map (mskOf ops)) (k : Nat) :
    ∀ (sch : List (Nat × Bool)) (listed : Array Bool) (L : Nat) (a : Act) (w : World), Listed ops.size listed L → (∀ k, L.testBit k = true → k < ops.size) → seqP ms sch L = true → S w →
      SeqE P Q S (fun a w => S w → ∀ listed, Listed ops.size listed (listAll sch L) → (∀ k, (listAll sch L).testBit k = true → k < ops.size) → wpAnyH P .any ops Q S k listed a w) (rowsOf ops sch) a w → wpAnyH P .any ops Q S (sch.length + k) listed a w
  | [], listed, L, a, w, hL, hn, _, hS, h => by
    rw [List.length_nil, Nat.zero_add]
    exact h hS listed hL hn
  | (i, c) :: rest, listed, L, a, w, hL, hn, hok, hS, h => by
    have hmi : ∀ j, ms[j]? = (ops[j]?).map (mskOf ops) := fun j => by rw [hms, List.getElem?_map, Array.getElem?_toList]
    rw [List.length_cons, show rest.length + 1 + k = rest.length + k + 1 by omega]
    cases ho : ops[i]? with
    | none => simp [rowsOf, rowAt, ho, SeqE] at h
    | some o =>
      have hin := (Array.getElem?_eq_some_iff.1 ho).1
      simp only [seqP, hmi, ho, Option.map_some, Bool.and_eq_true, Bool.not_eq_true', beq_iff_eq] at hok
      obtain ⟨⟨⟨hb, ha⟩, hoth⟩, hrest⟩ := hok
      have ih := seqE_sound ops hs hQ ms hms k rest (listed.setIfInBounds i true) (L ||| 1 <<< i)
      have hL' := hL.set i
      have hn' : ∀ k, (L ||| 1 <<< i).testBit k = true → k < ops.size := fun k hk => by
        rw [Nat.testBit_or, Nat.one_shiftLeft, Nat.testBit_two_pow, Bool.or_eq_true, decide_eq_true_eq] at hk
        rcases hk with hk | rfl
        · exact hn k hk
        · exact hin
      have hready : i ∈ Region.ready .any ops listed := mem_ready.2 ⟨by rw [hL.2 i hin]; exact hb, o, ho, aft_sub hL ha hn⟩
      have h' : SeqE P Q S (fun a w => S w → ∀ listed, Listed ops.size listed (listAll rest (L ||| 1 <<< i)) → (∀ k, (listAll rest (L ||| 1 <<< i)).testBit k = true → k < ops.size) → wpAnyH P .any ops Q S k listed a w) (some ⟨o, gslot ops o, c⟩ :: rowsOf ops rest) a w := by simpa [rowsOf, rowAt, ho, listAll] using h
      have hoth' := othersM_spec ms 0 hoth
      rcases h' with ⟨hc, hk⟩ | ⟨hc, v, hy, hr⟩
      · simp only at hc
        subst hc
        refine ⟨fun h0 => (by rw [h0] at hready; cases hready), fun j hj => ?_⟩
        obtain ⟨h0, oj, hoj, hall⟩ := mem_ready.1 hj
        have hjn := (Array.getElem?_eq_some_iff.1 hoj).1
        have hji : j = i := by
          rcases hoth' j (mskOf ops oj) (by rw [hmi, hoj]; rfl) with (h1 | h1) | h1
          · omega
          · rw [Nat.zero_add, ← hL.2 j hjn, h0] at h1
            cases h1
          · exfalso
            simp only [if_true] at h1
            apply h1
            apply Nat.eq_of_testBit_eq
            intro k
            rw [Nat.testBit_and]
            cases hk' : (mskOf ops oj).aft.testBit k
            · simp
            · simp only [mskOf, maskOf_test, decide_eq_true_eq, List.mem_map, List.mem_filter] at hk'
              obtain ⟨e, ⟨he, hbd⟩, rfl⟩ := hk'
              have := hall e (by simpa using he) hbd
              rcases Nat.lt_or_ge e.on ops.size with hlt | hge
              · rw [hL.false_eq _ hlt] at this
                simp [this]
              · rw [Array.getD, dif_neg (by rw [hL.1]; omega)] at this
                cases this
        subst hji
        have hk' := hk (fun a' w' => S w' ∧ wpAnyH P .any ops Q S (rest.length + k) (listed.setIfInBounds j true) a' w') (fun a' w' hS' hr => ⟨hS', ih a' w' hL' hn' hrest hS' hr⟩)
        simp only [wantR_eq] at hk'
        unfold wpOp
        simp only [ho]
        split at hk'
        · rename_i hw
          rw [if_pos hw]
          exact .inl hk'
        · rename_i hw
          rw [if_neg hw]
          exact hk'
      · simp only at hc
        subst hc
        refine wpAnyH_first ho (Region.noSelect_spec hs) (fun c a w => hQ c a _ _ w) (rest.length + k) listed a w ?_ hready (by simp only [wantR_eq] at hy; exact hy) hS (ih _ w hL' hn' hrest hS hr)
        intro j oj hoj hne hun hno
        have hjn := (Array.getElem?_eq_some_iff.1 hoj).1
        rcases hoth' j (mskOf ops oj) (by rw [hmi, hoj]; rfl) with (h1 | h1) | h1
        · omega
        · rw [Nat.zero_add, ← hL.2 j hjn, hun] at h1
          cases h1
        · simp only [Bool.false_eq_true, if_false] at h1
          rcases h1 with h1 | h1
          · exfalso
            simp only [mskOf, maskOf_test, decide_eq_true_eq, List.mem_map, List.mem_filter] at h1
            obtain ⟨e, ⟨he, hbd⟩, heq⟩ := h1
            exact hno e (by simpa using he) hbd heq
          · exact apart_of h1.1 h1.2

/-- How many of the first n bits are not there. -/
def missing (L : Nat) : Nat → Nat
  | 0 => 0
  | n + 1 => missing L n + (if L.testBit n then 0 else 1)
theorem missing_set (L i : Nat) (h : L.testBit i = false) : ∀ n, missing (L ||| 1 <<< i) n + (if i < n then 1 else 0) = missing L n
  | 0 => by simp [missing]
  | n + 1 => by
    have ih := missing_set L i h n
    have ht : (L ||| 1 <<< i).testBit n = (L.testBit n || decide (i = n)) := by rw [Nat.testBit_or, Nat.one_shiftLeft, Nat.testBit_two_pow]
    by_cases e : i = n
    · subst e
      unfold missing
      rw [ht]
      simp [h] at ih ⊢
      omega
    · have e2 : (L ||| 1 <<< i).testBit n = L.testBit n := by rw [ht]; simp [e]
      have e3 : (if i < n + 1 then 1 else 0) = (if i < n then 1 else 0) := by
        by_cases h2 : i < n
        · rw [if_pos h2, if_pos (by omega)]
        · rw [if_neg h2, if_neg (by omega)]
      unfold missing
      rw [e2, e3, ← ih]
      generalize (if i < n then 1 else 0) = t
      generalize (if L.testBit n = true then 0 else 1) = u
      omega
theorem missing_zero {L n : Nat} (h : missing L n = 0) : ∀ k, k < n → L.testBit k = true := by
  induction n with
  | zero => intro k hk; omega
  | succ n ih =>
    intro k hk
    unfold missing at h
    by_cases e : k = n
    · subst e
      cases hb : L.testBit k
      · rw [hb] at h; simp at h
      · rfl
    · exact ih (by omega) k (by omega)
/-- Whatever comes up next keeps what holds. -/
theorem every_sound (ops : Array Oper) (Inv : Nat → Act → World → Prop)
    (hstep : ∀ i o L a w, ops[i]? = some o → Inv L a w → L.testBit i = false → (mskOf ops o).aft &&& L = (mskOf ops o).aft → if wantR (gslot ops o) a.tmps = true then o.wp P a w (fun a' w' => S w' ∧ Inv (L ||| 1 <<< i) a' w') Q else S w ∧ Inv (L ||| 1 <<< i) (a.put o.dst undef) w)
    (hready : ∀ L a w, Inv L a w → missing L ops.size ≠ 0 → ∃ i o, ops[i]? = some o ∧ L.testBit i = false ∧ (mskOf ops o).aft &&& L = (mskOf ops o).aft)
    (hend : ∀ L a w, Inv L a w → missing L ops.size = 0 → Q .normal a w) :
    ∀ (fuel : Nat) (listed : Array Bool) (L : Nat) (a : Act) (w : World), Listed ops.size listed L → (∀ k, L.testBit k = true → k < ops.size) → missing L ops.size = fuel → Inv L a w → wpAnyH P .any ops Q S fuel listed a w
  | 0, listed, L, a, w, hL, hn, hm, hI => by
    refine ⟨?_, hend L a w hI hm⟩
    apply List.eq_nil_iff_forall_not_mem.2
    intro j hj
    obtain ⟨h0, o, ho, _⟩ := mem_ready.1 hj
    have hjn := (Array.getElem?_eq_some_iff.1 ho).1
    rw [hL.2 j hjn, missing_zero hm j hjn] at h0
    cases h0
  | fuel + 1, listed, L, a, w, hL, hn, hm, hI => by
    refine ⟨fun h0 => ?_, fun j hj => ?_⟩
    · exfalso
      obtain ⟨i, o, ho, hb, ha⟩ := hready L a w hI (by omega)
      have hin := (Array.getElem?_eq_some_iff.1 ho).1
      have : i ∈ Region.ready .any ops listed := mem_ready.2 ⟨by rw [hL.2 i hin]; exact hb, o, ho, aft_sub hL ha hn⟩
      rw [h0] at this
      cases this
    · obtain ⟨h0, oj, hoj, hall⟩ := mem_ready.1 hj
      have hjn := (Array.getElem?_eq_some_iff.1 hoj).1
      have hbj : L.testBit j = false := by rw [← hL.2 j hjn]; exact h0
      have hsub : (mskOf ops oj).aft &&& L = (mskOf ops oj).aft := by
        apply Nat.eq_of_testBit_eq
        intro k
        rw [Nat.testBit_and]
        cases hk' : (mskOf ops oj).aft.testBit k
        · simp
        · simp only [mskOf, maskOf_test, decide_eq_true_eq, List.mem_map, List.mem_filter] at hk'
          obtain ⟨e, ⟨he, hbd⟩, rfl⟩ := hk'
          have := hall e (by simpa using he) hbd
          rcases Nat.lt_or_ge e.on ops.size with hlt | hge
          · rw [hL.false_eq _ hlt] at this
            simp [this]
          · rw [Array.getD, dif_neg (by rw [hL.1]; omega)] at this
            cases this
      have hn' : ∀ k, (L ||| 1 <<< j).testBit k = true → k < ops.size := fun k hk => by
        rw [Nat.testBit_or, Nat.one_shiftLeft, Nat.testBit_two_pow, Bool.or_eq_true, decide_eq_true_eq] at hk
        rcases hk with hk | rfl
        · exact hn k hk
        · exact hjn
      have hms := missing_set L j hbj ops.size
      rw [if_pos hjn] at hms
      have hst := hstep j oj L a w hoj hI hbj hsub
      have go : ∀ a' w', S w' ∧ Inv (L ||| 1 <<< j) a' w' → S w' ∧ wpAnyH P .any ops Q S fuel (listed.setIfInBounds j true) a' w' := fun a' w' h =>
        ⟨h.1, every_sound ops Inv hstep hready hend fuel (listed.setIfInBounds j true) (L ||| 1 <<< j) a' w' (hL.set j) hn' (by omega) h.2⟩
      unfold wpOp
      simp only [hoj]
      rw [← wantR_eq]
      split at hst
      · rename_i hw
        rw [if_pos hw]
        exact .inl (Oper.wp_mono go hst)
      · rename_i hw
        rw [if_neg hw]
        exact go _ _ hst
end
end Go.Proofs.Ytglokhpgjfoneac
