/- Rising keys cut at a key; what is left when a span goes. -/
import Derived.Test.YtopengbflnoneaaSegApi
namespace Go.Proofs.Ytopengbflnoneaa
open Go.RowKit

theorem all_in {kvs : List (Int × Int)} (h : ∀ p ∈ kvs, 0 ≤ p.1 ∧ p.1 < 4294967296 ∧ inI p.2) : kvs.filter (inS 0 4294967295) = kvs := by
  rw [List.filter_eq_self]
  intro p hp
  have := h p hp
  simp only [inS, decide_eq_true_eq]
  omega
theorem filter_cut {lo cut hi : Int} (h1 : lo ≤ cut) (h2 : cut < hi) : ∀ {kvs : List (Int × Int)}, Rises kvs → kvs.filter (inS lo hi) = kvs.filter (inS lo cut) ++ kvs.filter (inS (cut + 1) hi)
  | [], _ => rfl
  | p :: rest, hr => by
    obtain ⟨ha, hb⟩ := List.pairwise_cons.1 hr
    have ih := filter_cut h1 h2 hb
    by_cases q1 : inS lo cut p = true
    · have q2 : inS (cut + 1) hi p = false := by simp only [inS, decide_eq_true_eq] at q1; simp only [inS, decide_eq_false_iff_not]; omega
      have q3 : inS lo hi p = true := by simp only [inS, decide_eq_true_eq] at q1 ⊢; omega
      simp [q1, q2, q3, ih]
    · by_cases q2 : inS (cut + 1) hi p = true
      · have q3 : inS lo hi p = true := by simp only [inS, decide_eq_true_eq] at q2 ⊢; omega
        have hn : rest.filter (inS lo cut) = [] := by
          rw [List.filter_eq_nil_iff]
          intro q hq
          have := ha q hq
          simp only [inS, decide_eq_true_eq] at q2 ⊢
          omega
        rw [hn] at ih
        have q1' : inS lo cut p = false := by simpa using q1
        simp [q1', q2, q3, ih, hn]
      · have q3 : inS lo hi p = false := by simp only [inS, decide_eq_true_eq] at q1 q2; simp only [inS, decide_eq_false_iff_not]; omega
        have q1' : inS lo cut p = false := by simpa using q1
        have q2' : inS (cut + 1) hi p = false := by simpa using q2
        simp [q1', q2', q3, ih]
theorem part_len (f : Int × Int → Bool) : ∀ kvs : List (Int × Int), kvs.length = (kvs.filter f).length + (kvs.filter (fun p => !f p)).length
  | [] => rfl
  | p :: rest => by
    have := part_len f rest
    cases h : f p <;> simp [h] <;> omega
theorem part_sum (f : Int × Int → Bool) : ∀ kvs : List (Int × Int), sm (vs kvs) = sm (vs (kvs.filter f)) + sm (vs (kvs.filter (fun p => !f p)))
  | [] => rfl
  | p :: rest => by
    have := part_sum f rest
    have e : ∀ (q : Int × Int) (r : List (Int × Int)), sm (vs (q :: r)) = q.2 + sm (vs r) := fun _ _ => rfl
    cases h : f p <;> simp [h, e] <;> omega
theorem gone (f : Int × Int → Bool) (kvs : List (Int × Int)) : (kvs.filter (fun p => !f p)).filter f = [] := by
  rw [List.filter_eq_nil_iff]
  intro p hp
  have := (List.mem_filter.1 hp).2
  simpa using this
theorem other {lo cut hi : Int} (kvs : List (Int × Int)) : (kvs.filter (fun p => !inS lo cut p)).filter (inS (cut + 1) hi) = kvs.filter (inS (cut + 1) hi) := by
  rw [List.filter_filter]
  congr 1
  funext p
  by_cases h : inS (cut + 1) hi p = true
  · have : inS lo cut p = false := by simp only [inS, decide_eq_true_eq] at h; simp only [inS, decide_eq_false_iff_not]; omega
    simp [h, this]
  · have h' : inS (cut + 1) hi p = false := by simpa using h
    simp [h']
theorem vals_of {kvs : List (Int × Int)} (h : ∀ p ∈ kvs, 0 ≤ p.1 ∧ p.1 < 4294967296 ∧ inI p.2) (f : Int × Int → Bool) : ∀ z ∈ vs (kvs.filter f), inI z := fun z hz => by
  obtain ⟨p, hp, rfl⟩ := List.mem_map.1 hz
  exact (h p (List.mem_filter.1 hp).1).2.2
theorem vals_of' {kvs : List (Int × Int)} (h : ∀ p ∈ kvs, 0 ≤ p.1 ∧ p.1 < 4294967296 ∧ inI p.2) : ∀ z ∈ vs kvs, inI z := fun z hz => by
  obtain ⟨p, hp, rfl⟩ := List.mem_map.1 hz
  exact (h p hp).2.2
theorem is_part {kvs : List (Int × Int)} (h : ∀ p ∈ kvs, 0 ≤ p.1 ∧ p.1 < 4294967296 ∧ inI p.2) (hl : kvs.length ≤ 1000000) (f : Int × Int → Bool) : IsOf (vs (kvs.filter f)) (ofL (vs (kvs.filter f))) :=
  isOf _ (by rw [vs_length]; exact Nat.le_trans (List.length_filter_le _ _) hl) (vals_of h f)
theorem is_all {kvs : List (Int × Int)} (h : ∀ p ∈ kvs, 0 ≤ p.1 ∧ p.1 < 4294967296 ∧ inI p.2) (hl : kvs.length ≤ 1000000) : IsOf (vs kvs) (ofL (vs kvs)) :=
  isOf _ (by rw [vs_length]; exact hl) (vals_of' h)
/-- A span that is cut is told as both its parts. -/
theorem cut_merge {kvs : List (Int × Int)} (h : ∀ p ∈ kvs, 0 ≤ p.1 ∧ p.1 < 4294967296 ∧ inI p.2) (hl : kvs.length ≤ 500000) (hr : Rises kvs) {lo cut hi : Int} (h1 : lo ≤ cut) (h2 : cut < hi) :
    mrg (ofL (vs (kvs.filter (inS lo cut)))) (ofL (vs (kvs.filter (inS (cut + 1) hi)))) = ofL (vs (kvs.filter (inS lo hi))) := by
  rw [ofL_cat (by rw [vs_length, vs_length]; have := List.length_filter_le (inS lo cut) kvs; have := List.length_filter_le (inS (cut + 1) hi) kvs; omega) (vals_of h _) (vals_of h _), ← vs_append, ← filter_cut h1 h2 hr]
/-- How many, and what sum, is left. -/
theorem left_cnt {kvs : List (Int × Int)} (h : ∀ p ∈ kvs, 0 ≤ p.1 ∧ p.1 < 4294967296 ∧ inI p.2) (hl : kvs.length ≤ 1000000) (f : Int × Int → Bool) :
    (ofL (vs (kvs.filter (fun p => !f p)))).c = (ofL (vs kvs)).c - (ofL (vs (kvs.filter f))).c := by
  rw [(is_part h hl (fun p => !f p)).c, (is_part h hl f).c, (is_all h hl).c, vs_length, vs_length, vs_length, part_len f kvs]
  omega
theorem left_sum {kvs : List (Int × Int)} (h : ∀ p ∈ kvs, 0 ≤ p.1 ∧ p.1 < 4294967296 ∧ inI p.2) (hl : kvs.length ≤ 1000000) (f : Int × Int → Bool) :
    wrap64 ((ofL (vs kvs)).s - (ofL (vs (kvs.filter f))).s) = (ofL (vs (kvs.filter (fun p => !f p)))).s := by
  rw [(is_part h hl (fun p => !f p)).s, (is_part h hl f).s, (is_all h hl).s, part_sum f kvs]
  generalize sm (vs (kvs.filter f)) = x
  generalize sm (vs (kvs.filter (fun p => !f p))) = y
  unfold wrap64
  omega
theorem cnt_of' {kvs : List (Int × Int)} (h : ∀ p ∈ kvs, 0 ≤ p.1 ∧ p.1 < 4294967296 ∧ inI p.2) (hl : kvs.length ≤ 1000000) : (ofL (vs kvs)).c = kvs.length := by rw [(is_all h hl).c, vs_length]
theorem insK_at (key v : Int) (kvs : List (Int × Int)) : (insK key v kvs).filter (inS key key) = [(key, v)] := by
  have e1 : ∀ p ∈ kvs.filter (fun p => decide (p.1 < key)), ¬ inS key key p = true := fun p hp => by
    have := (List.mem_filter.1 hp).2
    simp only [decide_eq_true_eq] at this
    simp only [inS, decide_eq_true_eq]
    omega
  have e2 : ∀ p ∈ kvs.filter (fun p => decide (key < p.1)), ¬ inS key key p = true := fun p hp => by
    have := (List.mem_filter.1 hp).2
    simp only [decide_eq_true_eq] at this
    simp only [inS, decide_eq_true_eq]
    omega
  have e3 : inS key key (key, v) = true := by simp [inS]
  unfold insK
  rw [List.filter_append, List.filter_eq_nil_iff.2 e1, List.filter_cons, if_pos e3, List.filter_eq_nil_iff.2 e2]
  rfl
section
variable {P : Program} {Q : Exit → Act → World → Prop} {S : World → Prop} {R : Value → World → Prop}
/-- A call whose contract says what it answers, behind an 'exists'. -/
theorem seq_callX {o : Oper} {gs : Option (Option Tmp × Bool)} {rest : List (Option RowR)} {a : Act} {w : World} {x : Operand} {xs : Array Operand} {ts : Array TypeId} {f : FuncId} {args : Array Value} (hw : wantR gs a.tmps = true)
    (ho : o.op = .call { callee := .value x, args := xs, argTypes := ts }) (hx : a.eval x = .func (.func f) #[] #[]) (hf : ∀ (args : Array Value) (w : World), (callFunc f args).run P w = .ok (.enter f args) w) (hargs : xs.map a.eval = args)
    (hc : Calls P f args w fun e w' => ∃ v, e = .returned v ∧ S w' ∧ R v w') (h : ∀ v w', S w' → R v w' → SeqR P Q S rest (a.put o.dst v) w') :
    SeqR P Q S (some ⟨o, gs, true⟩ :: rest) a w := by
  refine .inl ⟨rfl, fun K hK => ?_⟩
  simp only [hw, if_true]
  unfold Oper.wp
  rw [run_callv ho hx hf hargs]
  refine Calls.mono hc fun e w' ⟨v, he, hS, hR⟩ => ?_
  subst he
  exact hK.out _ _ hS (h v w' hS hR)
end
theorem none_in (kvs : List (Int × Int)) : kvs.filter (inS 1 0) = [] := by
  rw [List.filter_eq_nil_iff]
  intro p _
  simp only [inS, decide_eq_true_eq]
  omega
end Go.Proofs.Ytopengbflnoneaa
