/- The example of area's laws. -/
import Derived.Test.YtmdhbbibghpijaaDoorAreaList
import Derived.ArgAppend
namespace Go.Proofs.YtmdhbbibghpijaaDoor
open Go.RowKit

theorem arg_made (w : World) (cur : Array Value) (zs : List Sp) (n : Nat) (h : cur.toList = spc zs) (hn : zs.length = n) (hok : ∀ s ∈ zs, s.ok) : Arg (w.alloc (.cells cur 37)) (some ⟨w.heap.size, 0, none⟩) n n zs := by
  subst hn
  exact ⟨Prs.made w cur 37 zs h, Nat.le_refl _, (fun h => by cases h), hok⟩
def eA : Nat → Int → Bool := fun i k => decide (i < 2) && Nat.testBit 2 i && hasB [⟨1, 3⟩] k
def eB : Nat → Int → Bool := fun i k => decide (i < 3) && Nat.testBit 6 i && hasB [⟨3, 4⟩] k
theorem e_has (a b k : Int) : hasB [⟨a, b⟩] k = (decide (a ≤ k) && decide (k ≤ b)) := by simp [hasB]
theorem eA_one (k : Int) : eA 1 k = (decide (1 ≤ k) && decide (k ≤ 3)) := by unfold eA; rw [e_has]; rfl
theorem eB_one (k : Int) : eB 1 k = (decide (3 ≤ k) && decide (k ≤ 4)) := by unfold eB; rw [e_has]; rfl
theorem eA_no {i : Nat} (h : i ≠ 1) (k : Int) : eA i k = false := by
  unfold eA
  rcases (show i = 0 ∨ 2 ≤ i by omega) with rfl | h2
  · rfl
  · rw [decide_eq_false (by omega)]; rfl
theorem e_mask : MaskOf (fun i k => eA i k || eB i k) 6 := by
  refine ⟨by decide, fun i => ?_⟩
  rcases (show i = 0 ∨ i = 1 ∨ i = 2 ∨ 3 ≤ i by omega) with rfl | rfl | rfl | h
  · constructor
    · intro h; exact absurd h (by decide)
    · rintro ⟨_, k, hk⟩; simp [eA, eB] at hk
  · exact ⟨fun _ => ⟨by decide, 3, by decide⟩, fun _ => by decide⟩
  · exact ⟨fun _ => ⟨by decide, 3, by decide⟩, fun _ => by decide⟩
  · constructor
    · intro h6
      have : Nat.testBit 6 i = false := Nat.testBit_lt_two_pow (Nat.lt_of_lt_of_le (by decide : 6 < 2 ^ 3) (Nat.pow_le_pow_right (by decide) h))
      rw [this] at h6; cases h6
    · rintro ⟨_, k, hk⟩
      simp [eA, eB, show ¬ i < 2 by omega, show ¬ i < 3 by omega] at hk
theorem e_cells {R : Nat → List Sp} (hR : ∀ i, i < 3 → IsSet (R i) (fun k => (eA i k && eB i k) = true)) : (cellsL R 3).length = 1 := by
  have h0 : R 0 = [] := List.eq_nil_of_length_eq_zero ((isSet_nil (hR 0 (by decide))).2 (fun k h => by simp [eA] at h))
  have h2 : R 2 = [] := List.eq_nil_of_length_eq_zero ((isSet_nil (hR 2 (by decide))).2 (fun k h => by simp [eA] at h))
  have h1 : R 1 = [⟨3, 3⟩] := (hR 1 (by decide)).unique (show IsSet [⟨3, 3⟩] (fun k => k = 3) from ⟨by simp [Rt], fun k => by simp [mem, inS]; omega, by simp [Sp.ok]⟩) (fun k => by rw [eA_one, eB_one]; simp; omega)
  rw [cellsL_succ, cellsL_succ, cellsL_succ, h0, h1, h2]
  rfl
theorem e_sub : sub (fun i k => eA i k && !eB i k) eA := fun i k h => by simp at h; exact h.1
theorem e_nosub : ¬ sub eA eB := fun h => by
  have := h 1 1 (by decide)
  exact absurd this (by decide)
theorem e_noempty : ¬ ∀ i k, eA i k = false := fun h => by
  have := h 1 1
  exact absurd this (by decide)
theorem e_nosame : ¬ ∀ i k, eA i k = eB i k := fun h => by
  have := h 1 1
  exact absurd this (by decide)
theorem set_len {base : Nat} {W : World} {r : SV} {M : Nat} {h : Int → Bool} (g : StS base W r M h) {r0 : List Sp} (h0 : IsSet r0 (fun k => h k = true)) : r.2.1 = r0.length := by
  obtain ⟨⟨zs, ha, hr, hq⟩, -, -⟩ := g
  have : IsSet zs (fun k => h k = true) := ⟨hr, fun k => by rw [← hasB_iff, hq k], ha.ok⟩
  rw [← this.unique h0 (fun _ => Iff.rfl), ha.len]

section
variable {P : Program} {w : World}
/-- append to a row that has no room: a new row, and nothing is turned. -/
theorem wpList_append_new {ops : Array Oper} {rest : List Oper} {o : Oper} {a : Act} {Q : Exit → Act → World → Prop} (hgd : Region.wanted o (yielded ops a.tmps) = true) (s x : Operand) (t : TypeId)
    (ho : o.op = .call { callee := .builtin .append, args := #[s, x], argTypes := #[t, t] })
    (e : TypeId) (i : TypeInfo) (z : Value) (size bytes : Nat) (ht : P.underlying t = some (.slice e)) (hi : P.info? e = some i) (hz : i.zero = some z) (hsize : i.size = size) (hby : i.bytes = bytes) (hzs : z.cells.size = size) (hsz : 0 < size)
    (b : Addr) (n cap : Nat) (olds : List Value) (hs : a.eval s = .slice (some b) n cap) (hlo : olds.length = n * size) (holds : ∀ j u, olds[j]? = some u → w.cell? (b.add j) = some u)
    (ad : Addr) (m c : Nat) (news : List Value) (hx : a.eval x = .slice (some ad) m c) (hl : news.length = m * size) (hnews : ∀ j u, news[j]? = some u → w.cell? (ad.add j) = some u)
    (hg : cap < n + m) (hm : 0 < m) (h63 : n + m ≤ maxLen) (hbytes : (n + m) * bytes ≤ 140737488355328)
    (h : ∀ A' c' w', w'.ownsRow w.heap.size e size (.slice A' (n + m) c') (n + m) (olds ++ news) → Keep w w' → wpList P ops Q rest (a.put o.dst (.slice A' (n + m) c')) w') :
    wpList P ops Q (o :: rest) a w := by
  refine BigFrame.wpList_want hgd fun K hK => ?_
  obtain ⟨v', w', hr, h2, h3⟩ := run_append_arg_grows (P := P) w t o.type e i z size bytes ht hi hz hsize hby hzs hsz b n cap olds hlo holds ad m c news hl hnews hg h63 hbytes
  obtain ⟨A', c', rfl⟩ : ∃ A' c', v' = .slice A' (n + m) c' := by
    rcases h2.2 with ⟨_, h0⟩ | ⟨g, cp, cur, rfl, _⟩
    · omega
    · exact ⟨_, _, rfl⟩
  unfold Oper.wp execOp
  simp only [ho, resolve, invoke, builtin, Sem.run_bind, Sem.run_pure, Result.andThen_ok, List.map_toArray, List.map_cons, List.map_nil, hs, hx, hr]
  exact hK _ _ (h A' c' w' h2 (Only.keep (Keep.refl w) ((Only.refl (fun _ => False) w).grown h3 (fun _ _ e => by cases e)) (fun _ h => h.elim)))
end
set_option maxRecDepth 100000 in
set_option maxHeartbeats 4000000 in
theorem alive_any (w : World) (hT : Tab w) : Calls Tryd.prog 8 #[] w fun e w' => e = .returned (.bool true) ∧ Keep w w' := by
  have HT := Lib.hid hT
  have s1 := arg_made w #[.int .u32 1, .int .u32 3] [⟨1, 3⟩] 1 rfl rfl (by simp [Sp.ok])
  have S1 := Lib.hid s1
  have k1 := (Keep.refl w).alloc (.cells #[.int .u32 1, .int .u32 3] 37)
  have K1 := Lib.hid k1
  clear s1 k1 hT
  go_enter Tryd.func8, Tryd.ntmps8
  go_wp2_with fail
  generalize w.alloc (.cells #[.int .u32 1, .int .u32 3] 37) = W1 at *
  refine (of_a 2 2 2 (N := 1) (Bg.of S1.out) (by decide) (by decide) (by decide) (by decide) (HT.out.below HT.out.pos K1.out)).mono ?_
  rintro e W2 ⟨A2, rfl, hk2, ha⟩
  have K2 := Lib.hid (K1.out.trans hk2)
  have HA := Lib.hid (show AreaS W1.heap.size W2 A2 2 1 eA from ha)
  obtain ⟨b0, o0, r0, e0, hb0, hc0, hst0⟩ := ha.row 0 (by decide)
  obtain ⟨b1, o1, r1, e1, hb1, hc1, hst1⟩ := ha.row 1 (by decide)
  have hl0 : r0.2.1 = 0 := set_len hst0 (r0 := []) ⟨by simp [Rt], fun k => by simp [mem], by simp⟩
  have hl1 : r1.2.1 = 1 := set_len hst1 (r0 := [⟨1, 3⟩]) ⟨by simp [Rt], fun k => by rw [show (decide (1 < 2) && Nat.testBit 2 1 && hasB [⟨1, 3⟩] k) = hasB [⟨1, 3⟩] k from rfl, hasB_iff], by simp [Sp.ok]⟩
  subst e0
  cases e1
  obtain ⟨a0, n0, d0⟩ := r0
  obtain ⟨a1, n1, d1⟩ := r1
  dsimp only at hl0 hl1
  subst hl0 hl1
  unfold SV.v at hc0 hc1
  dsimp only at hc0 hc1
  rw [Nat.add_zero] at hc0
  have s2 := arg_made W2 #[.int .u32 3, .int .u32 4] [⟨3, 4⟩] 1 rfl rfl (by simp [Sp.ok])
  have S2 := Lib.hid s2
  have k3 := (Keep.refl W2).alloc (.cells #[.int .u32 3, .int .u32 4] 37)
  have K3 := Lib.hid k3
  have HC0 := Lib.hid (And.intro hb0 (And.intro hb1 (And.intro hc0 (And.intro hc1 (And.intro (show Bg W2 a0 0 d0 (eA 0) from hst0.1.bg) (show Bg W2 a1 1 d1 (eA 1) from hst1.1.bg))))))
  clear ha hst0 hst1 hk2 S1 K1 hb0 hb1 s2 k3
  go_wp2_with fail
  clear hc0 hc1
  generalize W2.alloc (.cells #[.int .u32 3, .int .u32 4] 37) = W3 at *
  refine (of_a 3 6 3 (N := 1) (Bg.of S2.out) (by decide) (by decide) (by decide) (by decide) (HT.out.below HT.out.pos (K2.out.trans K3.out))).mono ?_
  rintro e W4 ⟨B2, rfl, hk4, hb⟩
  have HB := Lib.hid (show AreaS W3.heap.size W4 B2 3 1 eB from hb)
  have K24 := Lib.hid (K3.out.trans hk4)
  have hA4 := (HA.out.keep K24.out).area
  have hB4 := HB.out.area
  clear hb hk4 K3 S2
  go_wp2_with fail
  refine (has_a 1 3 hA4 (by decide)).mono ?_
  rw [show fz eA 1 3 = true by decide]
  rintro e W5 ⟨rfl, hk5⟩
  go_wp2_with fail
  refine (has_a 0 3 (hA4.keep hk5) (by decide)).mono ?_
  rw [show fz eA 0 3 = false by decide]
  rintro e W6 ⟨rfl, hk6⟩
  replace hk6 := hk5.trans hk6
  clear hk5
  go_wp2_with fail
  refine (union_a (hA4.keep hk6) (hB4.keep hk6) (by decide) (by decide) (by decide)).mono ?_
  rintro e W7 ⟨C7, c7, rfl, hk7, hu, hcu⟩
  replace hk7 := hk6.trans hk7
  clear hk6
  go_wp2_with fail
  refine (mask_a hu.area (by decide) (by decide) hcu).mono ?_
  rintro e W8 ⟨M, rfl, hM, hk8⟩
  obtain rfl := hM.unique e_mask (fun i _ => Iff.rfl)
  replace hk8 := hk7.trans hk8
  clear hk7 hu hcu hM
  go_wp2_with fail
  refine (meet_a (hA4.keep hk8) (hB4.keep hk8) (by decide) (by decide) (by decide)).mono ?_
  rintro e W9 ⟨C9, c9, rfl, hk9, hm, -⟩
  replace hk9 := hk8.trans hk9
  clear hk8
  obtain ⟨R, hR⟩ := area_sets hm.area (by decide)
  have hlen : (cellsL R (max 2 3)).length = 1 := e_cells hR
  go_wp2_with fail
  refine (list_some hm.area hR (by decide) (by decide) (by omega) 9 (by decide) (by decide)).mono ?_
  rintro e W10 ⟨C10, c10, rfl, -, hk10⟩
  rw [List.length_take, hlen]
  replace hk10 := hk9.trans hk10
  clear hk9 hm hR hlen
  go_wp2_with fail
  refine (minus_a (hA4.keep hk10) (hB4.keep hk10) (by decide) (by decide) (by decide)).mono ?_
  rintro e W11 ⟨C11, c11, rfl, hk11, hd, -⟩
  replace hk11 := hk10.trans hk11
  clear hk10
  go_wp2_with fail
  refine (within_a true hd.area (hA4.keep hk11) (by decide) (by decide) (by decide) ⟨fun _ => e_sub, fun _ => rfl⟩).mono ?_
  rintro e W12 ⟨rfl, hk12⟩
  replace hk12 := hk11.trans hk12
  clear hk11 hd
  go_wp2_with fail
  refine (within_a false (hA4.keep hk12) (hB4.keep hk12) (by decide) (by decide) (by decide) ⟨(fun h => by cases h), fun h => absurd h e_nosub⟩).mono ?_
  rintro e W13 ⟨rfl, hk13⟩
  replace hk13 := hk12.trans hk13
  clear hk12
  go_wp2_with fail
  refine (empty_a true (area_nil W13 none 0) (by decide) (by decide) ⟨fun _ _ _ => rfl, fun _ => rfl⟩).mono ?_
  rintro e W14 ⟨rfl, hk14⟩
  replace hk14 := hk13.trans hk14
  clear hk13
  go_wp2_with fail
  refine (empty_a false (hA4.keep hk14) (by decide) (by decide) ⟨(fun h => by cases h), fun h => absurd h e_noempty⟩).mono ?_
  rintro e W15 ⟨rfl, hk15⟩
  replace hk15 := hk14.trans hk15
  clear hk14
  obtain ⟨i0, hi, hz0, hz1, hz2⟩ := info_parts infoSps
  have hk215 := K24.out.trans hk15
  have hrow : ∀ j u, [Value.slice a0 0 d0, Value.slice a1 1 d1][j]? = some u → (W15.alloc (.cells #[.slice none 0 0] 32)).cell? ((⟨b0, o0, none⟩ : Addr).add j) = some u := by
    obtain ⟨h0, h1, h2, h3, -, -⟩ := HC0.out
    have hkk := hk215.alloc (.cells #[.slice none 0 0] 32)
    intro j u hj
    rw [addr_add]
    rcases j with _ | _ | j
    · simp at hj; subst hj
      exact (hkk.cell (p := ⟨b0, o0, none⟩) h0).trans h2
    · simp at hj; subst hj
      exact (hkk.cell (p := ⟨b0, o0 + 1, none⟩) h0).trans h3
    · simp at hj
  have hnil : ∀ j u, [Value.slice none 0 0][j]? = some u → (W15.alloc (.cells #[.slice none 0 0] 32)).cell? ((⟨W15.heap.size, 0, none⟩ : Addr).add j) = some u := by
    intro j u hj
    have hb := World.alloc_heap_new W15 (.cells #[.slice none 0 0] 32)
    rw [addr_add, Nat.zero_add]
    generalize W15.alloc (.cells #[.slice none 0 0] 32) = V at *
    rcases j with _ | j
    · simp at hj; subst hj
      simp [World.cell?, hb]
    · simp at hj
  have HROW := Lib.hid hrow
  have HNIL := Lib.hid hnil
  have HK15 := Lib.hid hk15
  clear hrow hnil hk215
  go_wp2_with (at_builtin; refine wpList_append_new (by rfl) _ _ 22 rfl 32 i0 (.slice none 0 0) 1 24 Tryd.underlying22 hi hz0 hz1 hz2 rfl (by decide) ⟨b0, o0, none⟩ 2 2 [.slice a0 0 d0, .slice a1 1 d1] rfl rfl HROW.out ⟨W15.heap.size, 0, none⟩ 1 1 [.slice none 0 0] rfl rfl HNIL.out (by decide) (by decide) (by decide) (by decide) ?_; intro A6 c6 w6 hown6 hk6)
  have hk16 := (HK15.out.alloc (.cells #[.slice none 0 0] 32)).trans hk6
  have hnew : Area w6 A6 3 1 eA := by
    obtain ⟨-, -, -, -, g0, g1⟩ := HC0.out
    have hkk := K24.out.trans hk16
    obtain ⟨A7, c7, e7, hl⟩ := Lies.of_row hown6
    cases e7
    obtain ⟨b, off, e, hb, hc⟩ := hl.2 (by decide)
    refine ⟨fun i hi k => eA_no (by omega) k, fun i hi => ?_⟩
    rcases (show i = 0 ∨ i = 1 ∨ i = 2 by omega) with rfl | rfl | rfl
    · exact ⟨b, off, a0, 0, d0, e, hb, hc 0 (by decide), g0.keep hkk, by decide⟩
    · exact ⟨b, off, a1, 1, d1, e, hb, hc 1 (by decide), g1.keep hkk, by decide⟩
    · exact ⟨b, off, none, 0, 0, e, hb, hc 2 (by decide), bg_none _ (fun k => eA_no (by decide) k), by decide⟩
  refine (same_a true (hA4.keep hk16) hnew (by decide) (by decide) (by decide) ⟨fun _ _ _ => rfl, fun _ => rfl⟩).mono ?_
  rintro e W17 ⟨rfl, hk17⟩
  replace hk17 := hk16.trans hk17
  clear hk16 hown6 hk6 hnew
  go_wp2_with fail
  refine (same_a false (hA4.keep hk17) (hB4.keep hk17) (by decide) (by decide) (by decide) ⟨(fun h => by cases h), fun h => absurd h e_nosame⟩).mono ?_
  rintro e W18 ⟨rfl, hk18⟩
  have HKK := Lib.hid (((K2.out.trans K24.out).trans hk17).trans hk18)
  clear hk17 hk18 hA4 hB4
  go_wp2
  go_ret
  exact ⟨rfl, HKK.out⟩
end Go.Proofs.YtmdhbbibghpijaaDoor
