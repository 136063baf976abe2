/- A map from keys to values, and the rising row of them. -/
import Derived.Test.YtopengbflnoneaaSegSpansM
import Derived.Test.YtopengbflnoneaaMapX
namespace Go.Proofs.Ytopengbflnoneaa
open Go.RowKit

theorem u32Keyed : Maps.Keyed Try.prog 32 := Maps.int_keyed Try.underlying32
theorem zeroI64 (w : World) : (zeroValue 2).run Try.prog w = .ok (.int .i64 0) w := by kernel_rfl
theorem wf_u32' {a : Int} (h0 : 0 ≤ a) (h1 : a ≤ 4294967295) : (Lit.int .u32 a).wf = true := by
  have e1 : IntKind.u32.min = 0 := by decide
  have e2 : IntKind.u32.max = 4294967295 := by decide
  simp [Lit.wf, e1, e2]; omega
def hasK (kvs : List (Int × Int)) (k : Int) : Bool := kvs.any (fun p => decide (p.1 = k))
theorem hasK_iff {kvs : List (Int × Int)} {k : Int} : hasK kvs k = true ↔ ∃ v, (k, v) ∈ kvs := by
  unfold hasK
  rw [List.any_eq_true]
  constructor
  · rintro ⟨⟨a, v⟩, hp, h⟩
    obtain rfl := of_decide_eq_true h
    exact ⟨v, hp⟩
  · rintro ⟨v, hp⟩
    exact ⟨_, hp, by simp⟩
theorem insK_mem {k v : Int} {kvs : List (Int × Int)} {p : Int × Int} : p ∈ insK k v kvs ↔ p = (k, v) ∨ (p ∈ kvs ∧ p.1 ≠ k) := by
  unfold insK
  rw [List.mem_append, List.mem_cons, List.mem_filter, List.mem_filter, decide_eq_true_eq, decide_eq_true_eq]
  constructor
  · rintro (⟨h1, h2⟩ | rfl | ⟨h1, h2⟩)
    · exact .inr ⟨h1, by omega⟩
    · exact .inl rfl
    · exact .inr ⟨h1, by omega⟩
  · rintro (rfl | ⟨h1, h2⟩)
    · exact .inr (.inl rfl)
    · by_cases h : p.1 < k
      · exact .inl ⟨h1, h⟩
      · exact .inr (.inr ⟨h1, by omega⟩)
theorem insK_has (k v : Int) (kvs : List (Int × Int)) (k' : Int) : hasK (insK k v kvs) k' = (decide (k' = k) || hasK kvs k') := by
  rw [Bool.eq_iff_iff, Bool.or_eq_true, hasK_iff, hasK_iff, decide_eq_true_eq]
  constructor
  · rintro ⟨v', h⟩
    rcases insK_mem.1 h with h | ⟨h, _⟩
    · exact .inl (congrArg Prod.fst h)
    · exact .inr ⟨v', h⟩
  · rintro (rfl | ⟨v', h⟩)
    · exact ⟨v, insK_mem.2 (.inl rfl)⟩
    · by_cases h2 : k' = k
      · subst h2; exact ⟨v, insK_mem.2 (.inl rfl)⟩
      · exact ⟨v', insK_mem.2 (.inr ⟨h, h2⟩)⟩
theorem insK_len_is (k v : Int) : ∀ {kvs : List (Int × Int)}, Rises kvs → (insK k v kvs).length = if hasK kvs k = true then kvs.length else kvs.length + 1
  | [], _ => by simp [insK, hasK]
  | p :: rest, hr => by
    obtain ⟨ha, hb⟩ := List.pairwise_cons.1 hr
    have ih := insK_len_is k v hb
    have hall : ∀ c : Int, c ≤ p.1 → (rest.filter (fun q => decide (q.1 < c)) = []) ∧ rest.filter (fun q => decide (c < q.1)) = rest ∧ hasK rest c = false := fun c hc => by
      refine ⟨?_, ?_, ?_⟩
      · rw [List.filter_eq_nil_iff]
        intro q hq
        have := ha q hq
        simp only [decide_eq_true_eq]
        omega
      · rw [List.filter_eq_self]
        intro q hq
        have := ha q hq
        simp only [decide_eq_true_eq]
        omega
      · rw [← Bool.not_eq_true, hasK_iff]
        rintro ⟨v', h⟩
        have := ha _ h
        dsimp only at this
        omega
    have hcons : ∀ c : Int, hasK (p :: rest) c = (decide (p.1 = c) || hasK rest c) := fun _ => rfl
    by_cases h1 : p.1 < k
    · have e1 : decide (p.1 < k) = true := decide_eq_true h1
      have e2 : decide (k < p.1) = false := decide_eq_false (by omega)
      have e3 : decide (p.1 = k) = false := decide_eq_false (by omega)
      rw [hcons, e3, Bool.false_or]
      unfold insK at ih ⊢
      simp only [List.filter_cons, e1, e2, if_true, Bool.false_eq_true, if_false, List.cons_append, List.length_cons]
      rw [ih]
      split <;> rfl
    · obtain ⟨q1, q2, q3⟩ := hall k (by omega)
      have e1 : decide (p.1 < k) = false := decide_eq_false h1
      rw [hcons, q3, Bool.or_false]
      unfold insK
      by_cases h2 : p.1 = k
      · have e2 : decide (k < p.1) = false := decide_eq_false (by omega)
        have e3 : decide (p.1 = k) = true := decide_eq_true h2
        simp [e1, e2, q1, q2, e3]
      · have e2 : decide (k < p.1) = true := decide_eq_true (by omega)
        have e3 : decide (p.1 = k) = false := decide_eq_false h2
        simp [e1, e2, q1, q2, e3]
theorem one_in {k v : Int} : ∀ {kvs : List (Int × Int)}, Rises kvs → (k, v) ∈ kvs → kvs.filter (inS k k) = [(k, v)]
  | [], _, h => by cases h
  | p :: rest, hr, h => by
    obtain ⟨ha, hb⟩ := List.pairwise_cons.1 hr
    rcases List.mem_cons.1 h with rfl | h
    · have e1 : inS k k (k, v) = true := by simp [inS]
      have e2 : rest.filter (inS k k) = [] := by
        rw [List.filter_eq_nil_iff]
        intro q hq
        have := ha q hq
        simp only [inS, decide_eq_true_eq]
        omega
      rw [List.filter_cons, if_pos e1, e2]
    · have := ha _ h
      have e1 : ¬ inS k k p = true := by
        simp only [inS, decide_eq_true_eq]
        dsimp only at this
        omega
      rw [List.filter_cons, if_neg e1]
      exact one_in hb h
theorem none_at {k : Int} {kvs : List (Int × Int)} (h : hasK kvs k = false) : kvs.filter (inS k k) = [] := by
  rw [List.filter_eq_nil_iff]
  intro q hq hi
  simp only [inS, decide_eq_true_eq] at hi
  have : hasK kvs k = true := hasK_iff.2 ⟨q.2, by rw [show k = q.1 by omega]; exact hq⟩
  rw [h] at this
  cases this
theorem has_cnt {kvs : List (Int × Int)} (hr : Rises kvs) (k : Int) : decide (0 < (ofL (vs (kvs.filter (inS k k)))).c) = hasK kvs k := by
  cases h : hasK kvs k
  · rw [none_at h]; rfl
  · obtain ⟨v, hv⟩ := hasK_iff.1 h
    rw [one_in hr hv]
    show decide (0 < (ofL [v]).c) = true
    rw [ofL_one]
    exact decide_eq_true (show (0 : Int) < 1 by decide)
/-- The map holds just these. -/
structure MD (D : DataW Unit) (kvs : List (Int × Int)) : Prop where
  tidy : Maps.Tidy D
  has : ∀ k, Maps.has D (.int .u32 k) = hasK kvs k
  at' : ∀ k v, (k, v) ∈ kvs → ∀ z, D.atKey (.int .u32 k) z = .lit (.int .i64 v)
  size : Maps.size D = kvs.length
theorem MD.nil : MD (.map []) [] := ⟨Maps.tidy_empty, fun _ => rfl, fun _ _ h => by (cases h), rfl⟩
theorem u32_key (k : Int) : WideAt.IsKeyLit (.int .u32 k) := by simp [WideAt.IsKeyLit]
theorem MD.put {D : DataW Unit} {kvs : List (Int × Int)} (h : MD D kvs) (hr : Rises kvs) (k v : Int) : MD (D.put (.int .u32 k) (.lit (.int .i64 v))) (insK k v kvs) := by
  have hm := h.tidy.isMap
  have hne : ∀ {k' : Int}, k' ≠ k → (Lit.int .u32 k') ≠ .int .u32 k := fun h e => h (by injection e)
  refine ⟨h.tidy.put (u32_key k) _, fun k' => ?_, fun k' v' hp z => ?_, ?_⟩
  · rw [insK_has]
    by_cases e : k' = k
    · subst e
      rw [Maps.has_put_same hm (u32_key _)]
      simp
    · rw [Maps.has_put_other (hne e), h.has]
      simp [e]
  · rcases insK_mem.1 hp with e | ⟨hp, e⟩
    · cases e
      exact Maps.atKey_put_same hm (u32_key _) _ _
    · rw [Maps.atKey_put_other (hne e)]
      exact h.at' k' v' hp z
  · rw [Maps.size_put h.tidy, h.has, insK_len_is k v hr, h.size]
theorem xor_one (a : Int) (h0 : 0 ≤ a) (h1 : a < 4294967296) : ∃ f : Int, bits BinOp.xor IntKind.u32 a 1 = f ∧ 0 ≤ f ∧ f ≤ 4294967295 := by
  obtain ⟨m, rfl⟩ : ∃ m : Nat, a = m := ⟨a.toNat, by omega⟩
  have hm : m < 2 ^ 32 := by omega
  have e1 : (BitVec.ofInt 32 (m : Int)).toNat = m := by
    rw [BitVec.toNat_ofInt]
    omega
  have e3 : (BitVec.ofInt 32 (m : Int) ^^^ BitVec.ofInt 32 1).toNat = m ^^^ 1 := by
    rw [BitVec.toNat_xor, e1]
    rfl
  have hlt : m ^^^ 1 < 2 ^ 32 := Nat.xor_lt_two_pow hm (by decide)
  refine ⟨((m ^^^ 1 : Nat) : Int), ?_, by omega, by omega⟩
  show IntKind.u32.wrap ((BitVec.ofInt 32 (m : Int) ^^^ BitVec.ofInt 32 1).toNat : Int) = _
  rw [e3, IntKind.wrap_u32]
  omega
theorem has_any (m n : Nat) (D : DataW Unit) (k : Int) (h0 : 0 ≤ k) (h1 : k ≤ 4294967295) (w : World) (ho : w.ownsMap Try.prog 32 (plainElem Try.prog 2) m n D) :
    Calls Try.prog 25 #[.map (some m), .int .u32 k] w fun e w' => e = .returned (.bool (Maps.has D (.int .u32 k))) ∧ Keep w w' := by
  have HM := Lib.hid ho
  have wf := wf_u32' h0 h1
  clear ho
  go_enter Try.func25, Try.ntmps25
  go_wp2_with (at_lookup; refine wpList_lookup_own_ok_int _ rfl _ _ 58 rfl 32 2 .i64 u32Keyed Try.underlying58 Try.underlying2 (zeroI64 _) m _ D rfl (by first | exact HM.out | exact HM.out.alloc _ | exact (HM.out.alloc _).alloc _) _ _ rfl (Maps.keyOf_int_mk Try.underlying32 wf) ?_; intro c hat hwc; clear hat hwc)
  go_ret
  first | exact ⟨rfl, Keep.refl w⟩ | exact ⟨rfl, (Keep.refl w).alloc _⟩ | exact ⟨rfl, ((Keep.refl w).alloc _).alloc _⟩
end Go.Proofs.Ytopengbflnoneaa
