/- area.Mask. -/
import Derived.Test.YtmdhbbibghpijaaDoorAreaEmpty
namespace Go.Proofs.YtmdhbbibghpijaaDoor
open Go.RowKit Go.Shelf
attribute [local go_sem] Oper.semAt_some

theorem u32_or (a b : Nat) (ha : a < 4294967296) (hb : b < 4294967296) : bits BinOp.or IntKind.u32 (a : Int) (b : Int) = ((a ||| b : Nat) : Int) := by
  have h : a ||| b < 2 ^ 32 := Nat.or_lt_two_pow (by omega) (by omega)
  have e1 : (BitVec.ofInt 32 (a : Int) ||| BitVec.ofInt 32 (b : Int)).toNat = a ||| b := by
    rw [BitVec.toNat_or, BitVec.toNat_ofInt, BitVec.toNat_ofInt]
    congr 1 <;> omega
  show IntKind.u32.wrap ((BitVec.ofInt 32 (a : Int) ||| BitVec.ofInt 32 (b : Int)).toNat : Int) = _
  rw [e1]
  generalize a ||| b = y at *
  simp only [IntKind.wrap, IntKind.bits, IntKind.signed]
  simp
  omega
/-- The labels that come. -/
def mkN (L : List (Int × Sp)) : Nat := L.foldl (fun a x => a ||| 2 ^ x.1.toNat) 0
theorem mkN_snoc (L : List (Int × Sp)) (x : Int × Sp) : mkN (L ++ [x]) = mkN L ||| 2 ^ x.1.toNat := by simp [mkN]
theorem mkN_test (L : List (Int × Sp)) (i : Nat) : (mkN L).testBit i = L.any fun x => decide (x.1.toNat = i) := by
  have h : ∀ (L : List (Int × Sp)) (a : Nat), (L.foldl (fun a x => a ||| 2 ^ x.1.toNat) a).testBit i = (a.testBit i || L.any fun x => decide (x.1.toNat = i)) := by
    intro L
    induction L with
    | nil => intro a; simp
    | cons x L ih =>
      intro a
      rw [List.foldl_cons, ih, Nat.testBit_or, Nat.testBit_two_pow, List.any_cons, Bool.or_assoc]
  rw [mkN, h]
  simp
theorem mkN_lt {L : List (Int × Sp)} (h : ∀ x ∈ L, x.1.toNat < 32) : mkN L < 4294967296 := by
  have : mkN L < 2 ^ 32 := by
    refine Nat.lt_pow_two_of_testBit _ fun i hi => ?_
    rw [mkN_test, List.any_eq_false]
    intro x hx
    have := h x hx
    simp; omega
  exact this
/-- A mask of just the labels, of the first 32, that have keys. -/
def MaskOf (f : Nat → Int → Bool) (m : Nat) : Prop := m < 4294967296 ∧ ∀ i, m.testBit i = true ↔ i < 32 ∧ ∃ k, f i k = true
theorem MaskOf.unique {f g : Nat → Int → Bool} {m n : Nat} (h : MaskOf f m) (h' : MaskOf g n) (e : ∀ i, i < 32 → ((∃ k, f i k = true) ↔ ∃ k, g i k = true)) : m = n := by
  refine Nat.eq_of_testBit_eq fun i => ?_
  have h1 := h.2 i
  have h2 := h'.2 i
  by_cases hi : i < 32
  · have := e i hi
    cases hm : m.testBit i <;> cases hn : n.testBit i <;> simp_all
  · cases hm : m.testBit i <;> cases hn : n.testBit i <;> simp_all

/-- The first m labels. -/
def fst (f : Nat → Int → Bool) (m : Nat) : Nat → Int → Bool := fun i k => decide (i < m) && f i k
theorem Area.first {w : World} {A : Option Addr} {n N : Nat} {f : Nat → Int → Bool} (h : Area w A n N f) {m : Nat} (hm : m ≤ n) : Area w A m N (fst f m) :=
  ⟨fun i hi k => by unfold fst; rw [decide_eq_false (by omega)]; rfl, fun i hi => by
    obtain ⟨b, off, a, l, c, e, hb, hc, hg, hl⟩ := h.row i (by omega)
    exact ⟨b, off, a, l, c, e, hb, hc, hg.congr (fun k => by unfold fst; rw [decide_eq_true hi]; rfl), hl⟩⟩
def MkI (w : World) (pre : List (Int × Sp)) (W : World) : Prop := Boxed W w.heap.size 23 (.int .u32 (mkN pre : Nat)) ∧ Keep w W
set_option maxRecDepth 100000 in
set_option maxHeartbeats 2000000 in
theorem mask_a {w : World} {A : Option Addr} {na ca N : Nat} {f : Nat → Int → Bool} (hA : Area w A na N f) (hN : N ≤ 40000) (hl : na ≤ 1000000) (hcap : na ≤ ca) :
    Calls Tryd.prog 27 #[.slice A na ca] w fun e w' => ∃ M : Nat, e = .returned (.int .u32 M) ∧ MaskOf f M ∧ Keep w w' := by
  obtain ⟨m, hm⟩ : ∃ m, m = min na 32 := ⟨_, rfl⟩
  have hA2 := hA.first (m := m) (by omega)
  obtain ⟨R, hR⟩ := area_sets hA2 hN
  have hmn : min (na : Int) 32 = (m : Int) := by omega
  have hlt : ∀ x ∈ cellsL R m, 0 ≤ x.1 ∧ x.1.toNat < 32 := fun x hx => by
    obtain ⟨i, hi, h1, _⟩ := mem_cellsL.1 hx
    omega
  have hM : MaskOf f (mkN (cellsL R m)) := by
    refine ⟨mkN_lt (fun x hx => (hlt x hx).2), fun i => ?_⟩
    rw [mkN_test, List.any_eq_true]
    constructor
    · rintro ⟨x, hx, h1⟩
      obtain ⟨j, hj, h2, h3⟩ := mem_cellsL.1 hx
      have hij : i = j := by simp at h1; omega
      subst hij
      refine ⟨by omega, ?_⟩
      obtain ⟨k, hk⟩ := (set_some (hR i hj)).1 ⟨_, h3⟩
      unfold fst at hk
      exact ⟨k, by simp at hk; exact hk.2⟩
    · rintro ⟨h1, k, hk⟩
      have hi : i < m := by
        by_cases hn : i < na
        · omega
        · rw [hA.out i (by omega) k] at hk; cases hk
      obtain ⟨s, hs⟩ := (set_some (hR i hi)).2 ⟨k, by unfold fst; rw [decide_eq_true hi]; exact hk⟩
      exact ⟨((i : Int), s), mem_cellsL.2 ⟨i, hi, rfl, hs⟩, by simp⟩
  have HM := Lib.hid hM
  have HLT := Lib.hid hlt
  have HA := Lib.hid hA2
  have HR := Lib.hid hR
  have hmc : (m : Int) ≤ (ca : Int) := by omega
  have hml : m ≤ 1000000 := by omega
  have hmi : (0 : Int) ≤ (m : Int) := by omega
  clear hA hA2 hR hM hlt hm hcap
  refine (callsIn_wide (n := 3)).1 ?_
  refine callsIn_of_wp_marks Tryd.func27 rfl trivial ?_ rfl
  simp only [Tryd.ntmps27, List.size_toArray, List.length_cons, List.length_nil, Nat.reduceAdd, Nat.reduceSub, Array.replicate_succ, Array.replicate_zero, List.push_toArray, List.append_toArray, List.nil_append, List.cons_append]
  gi_wp2_with fail
  have bO := Boxed.new w 23 (.int .u32 0)
  have hB0 : Keep w (w.alloc (.cells #[.int .u32 0] 23)) := (Keep.refl w).alloc _
  have hs0 : (w.alloc (.cells #[.int .u32 0] 23)).heap.size = w.heap.size + 1 := by simp
  generalize w.alloc (.cells #[.int .u32 0] 23) = W0 at *
  refine ⟨trivial, (callsIn_wide.2 (cells_at A m ca W0)).mono ?_⟩
  rintro e w1 ⟨rfl, hw1⟩
  have hk1 : Keep W0 w1 := by rw [hw1]; exact (Keep.refl W0).alloc _
  have hs1 : w1.heap.size = w.heap.size + 2 := by rw [hw1]; simp [hs0]
  have cp1 : w1.cell? ⟨w.heap.size + 1, 0, none⟩ = some (.slice A m ca) := by rw [hw1, ← hs0]; exact (Boxed.new W0 22 (.slice A m ca)).cell
  have hkw := hB0.trans hk1
  have hseq := cells_seq (3 - 1) (by omega) HA.out HR.out hN hkw hml cp1
  have hstart : MkI w [] w1 := ⟨(hk1.block _ (Boxed.lt bO)).trans bO, hkw⟩
  rw [hs0]
  have HSEQ := Lib.hid hseq
  have HST := Lib.hid hstart
  have HS1 := Lib.hid hs1
  clear cp1 hw1 bO hB0 hs0 hk1 hseq hstart hkw
  gi_wp2_with fail
  refine wpIn_rangeFunc_T stays_sp rfl (by omega) (gf := 67) (lb := #[.pointer (some ⟨w.heap.size + 1, 0, none⟩)]) rfl trivial (enters_of Tryd.func67 (by kernel_rfl) rfl) HSEQ.out
    (fun c => ⟨⟨by omega, by omega⟩, by omega, by omega⟩) (Keep.refl w1) (fun _ => rfl)
    (fun _ => MkI w) (fun _ _ _ _ => False) ?sI (fun _ _ _ _ _ h _ => h) (fun _ => HST.out)
    (fun _ pre x a' _ => pre ++ [x] <+: cellsL R m ∧ a' = { tmps := #[.slice A na ca, undef, .int .u32 0, .pointer (some ⟨w.heap.size, 0, none⟩), .int .i64 x.1, .slice A na ca, .slice A na ca, .int .i64 na, .int .i64 m, .slice A m ca, .func (.func 67) #[] #[.pointer (some ⟨w.heap.size + 1, 0, none⟩)], .int .i64 x.1, .agg #[.int .u32 x.2.lo, .int .u32 x.2.hi], undef, undef, undef, undef, undef], defers := [] }) (fun _ _ _ _ _ _ _ h _ => h) ?assign ?body ?done ?stop
  case sI =>
    rintro c pre X Y ⟨q1, q2⟩ ho
    have h1 := HS1.out
    exact ⟨Boxed.only q1 ho (by omega), Only.keep q2 ho (fun k hk => by omega)⟩
  case assign =>
    rintro l c pre x W K2 hi hadm hsz hK2
    dsimp only [encC]
    gi_wp2
    exact hK2 _ _ (Only.refl _ W) (stays_sp.refl W) hi ⟨hadm, by simp⟩
  case body =>
    rintro l c pre x a' W ⟨q2, q3⟩ ⟨hadm, rfl⟩ hsz hlen
    have h1 := HS1.out
    have c1 := q2.cell
    have f2 := q2.frozen
    have HQ2 := Lib.hid q2
    have HQ3 := Lib.hid q3
    obtain ⟨hx0, hx1⟩ := HLT.out x (hadm.mem (by simp))
    have hpm : mkN pre < 4294967296 := mkN_lt (fun y hy => (HLT.out y (hadm.mem (by simp [hy]))).2)
    obtain ⟨x1, ⟨slo, shi⟩⟩ := x
    obtain ⟨j, rfl⟩ : ∃ j : Nat, x1 = j := ⟨x1.toNat, by omega⟩
    have hj : j < 32 := by simpa using hx1
    have h2j : 2 ^ j < 4294967296 := by
      have : 2 ^ j < 2 ^ 32 := Nat.pow_lt_pow_right (by omega) hj
      exact this
    have hsh : IntKind.u32.wrap ((2 : Int) ^ j) = ((2 ^ j : Nat) : Int) := by
      rw [show ((2 : Int) ^ j) = ((2 ^ j : Nat) : Int) by simp, IntKind.wrap_u32]
      generalize 2 ^ j = z at *
      omega
    have HV := Lib.hid (show bits BinOp.or IntKind.u32 (mkN pre : Int) (IntKind.u32.wrap ((2 : Int) ^ j)) = ((mkN pre ||| 2 ^ j : Nat) : Int) by rw [hsh]; exact u32_or (mkN pre) (2 ^ j) hpm h2j)
    clear hsh h2j
    have HSN := Lib.hid (show mkN (pre ++ [((j : Int), (⟨slo, shi⟩ : Sp))]) = mkN pre ||| 2 ^ j by rw [mkN_snoc]; simp)
    have hj2 : (j : Int) < 32 := by omega
    clear q2 q3 HSEQ HST hx0 hx1 hadm
    dsimp only
    gi_wp2_with fail
    gi_region_with fail
    all_goals
      rw [HV.out]
      have hO : Only (fun k => k = w.heap.size) W (W.setCell ⟨w.heap.size, 0, none⟩ (.int .u32 ((mkN pre ||| 2 ^ j : Nat) : Int))).drew := ((Only.refl (fun k => k = w.heap.size) W).setCell ⟨w.heap.size, 0, none⟩ _ rfl).drew
      refine ⟨hO.mono (fun k _ h => ⟨⟨by omega, by omega⟩, by omega, by omega⟩), spStay_of_only hO (fun k cur z h e => ?_), ?_, Only.keep HQ3.out hO (fun k h => by omega)⟩
      · subst h
        have := HQ2.out
        unfold Boxed at this
        rw [this] at e
        cases e
      · rw [HSN.out]
        exact (Keep.refl _).drew.block _ (Boxed.lt (Boxed.set _ HQ2.out)) |>.trans (Boxed.set _ HQ2.out)
  case done =>
    rintro D c ys W hD hlen ⟨q1, q2⟩ hdef
    have h1 := HS1.out
    have f2 := q1.frozen
    have c2 := q1.cell
    have HQ2 := Lib.hid q2
    subst hlen
    have HO2 := Lib.hid (Only.keep q2 ((Only.refl (fun k => k = D) W).putObj D (.deferred none) rfl) (fun k h => by omega))
    clear q1 q2 HSEQ HST
    gi_wp2
    refine ⟨by simp, .inl ⟨_, _, rfl, run_takeDeferred hdef, ?_⟩⟩
    exact ⟨.int .u32 (mkN (cellsL R m) : Nat), by simp [results, Tryd.f27, go_sem], _, rfl, HM.out, HO2.out⟩
  case stop => rintro D c e pre W hD hS hF _; exact hF.elim
end Go.Proofs.YtmdhbbibghpijaaDoor
