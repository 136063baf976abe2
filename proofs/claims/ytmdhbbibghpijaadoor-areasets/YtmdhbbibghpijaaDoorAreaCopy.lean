/- area.Cells: it goes through a copy. -/
import Derived.Test.YtmdhbbibghpijaaDoorAreaOf
namespace Go.Proofs.YtmdhbbibghpijaaDoor
open Go.RowKit Go.Shelf

/-- Spans of just the keys of h, at most M, in a block of their own from base on. -/
def BgK (base : Nat) (W : World) (r : SV) (M : Nat) (h : Int → Bool) : Prop := Bg W r.1 r.2.1 r.2.2 h ∧ r.2.1 ≤ M ∧ Knd base W r.1 r.2.2
theorem BgK.only {S : Nat → Prop} {base : Nat} {W W' : World} {r : SV} {M : Nat} {h : Int → Bool} (g : BgK base W r M h) (ho : Only S W W') (hS : ∀ a, r.1 = some a → ¬ S a.block) : BgK base W' r M h := by
  obtain ⟨⟨zs, ha, hz⟩, hm, hk1, hk2⟩ := g
  refine ⟨⟨zs, ⟨(ha.prs.only ho (Nat.le_refl _) (fun b off e => hS _ e)).more ho.size, ha.cap, ha.nil, ha.ok⟩, hz⟩, hm, hk1, fun a e => ?_⟩
  obtain ⟨hb, cur, hc⟩ := hk2 a e
  exact ⟨hb, cur, (ho.block _ (Array.getElem?_eq_some_iff.1 hc).1 (hS a e)).trans hc⟩
theorem BgK.not_row {base : Nat} {W : World} {r : SV} {M : Nat} {h : Int → Bool} (g : BgK base W r M h) {gb : Nat} {cur : Array Value} {z : Nat × Nat} (hg : W.heap[gb]? = some (.cells cur 32 z)) : ∀ a, r.1 = some a → ¬ a.block = gb := by
  intro a e hq
  obtain ⟨_, cur', hc⟩ := g.2.2.2 a e
  rw [hq, hg] at hc
  cases hc
theorem bgK_own {base : Nat} {W : World} {A : Option Addr} {m c l : Nat} {zs : List Sp} {h : Int → Bool} (ho : Own W base A m c zs) (hl : zs.length = m) (hok : ∀ s ∈ zs, s.ok) (hq : ∀ k, hasB zs k = h k) (hm : m ≤ l) : BgK base W (A, m, c) l h := by
  subst hl
  obtain ⟨g1, g2, g3⟩ := own_gives ho
  exact ⟨⟨zs, ⟨g1, g2, g3.1, hok⟩, hq⟩, hm, g3⟩
theorem BgK.stay {S : Nat → Prop} {base : Nat} {W W' : World} {r : SV} {M : Nat} {h : Int → Bool} (g : BgK base W r M h) (ho : Only S W W') (hs : SpStay W W') : BgK base W' r M h := by
  have hk := g.2.2.2
  refine g.only (S := fun k => W'.heap[k]? ≠ W.heap[k]?) ⟨ho.os, ho.tape, ho.output, ho.size, fun k _ hn => Classical.byContradiction hn⟩ (fun a e hne => ?_)
  obtain ⟨_, cur, hc⟩ := hk a e
  exact hne ((hs _ _ _ hc).trans hc.symm)
/-- A copy at gc. -/
def CpR (gc base na N : Nat) (f : Nat → Int → Bool) (W : World) : Prop :=
  ∃ rs : List SV, rs.length = na ∧ W.heap[gc]? = some (.cells (rs.map SV.v).toArray 32 (0, 0)) ∧ ∀ i r, i < na → rs[i]? = some r → BgK base W r N (f i)
theorem CpR.stay {S : Nat → Prop} {gc base na N : Nat} {f : Nat → Int → Bool} {W W' : World} (h : CpR gc base na N f W) (ho : Only S W W') (hs : SpStay W W') (hg : ¬ S gc) : CpR gc base na N f W' := by
  obtain ⟨rs, q0, q1, q2⟩ := h
  exact ⟨rs, q0, (ho.block _ (Array.getElem?_eq_some_iff.1 q1).1 hg).trans q1, fun i r hi hr => (q2 i r hi hr).stay ho hs⟩
theorem CpR.area {gc base na N : Nat} {f : Nat → Int → Bool} {W : World} (h : CpR gc base na N f W) (ho : ∀ i, na ≤ i → ∀ k, f i k = false) : Area W (some ⟨gc, 0, none⟩) na N f := by
  obtain ⟨rs, q0, q1, q2⟩ := h
  refine ⟨ho, fun i hi => ?_⟩
  have hir : rs[i]? = some rs[i] := List.getElem?_eq_getElem (by omega)
  have h0 := q2 i _ hi hir
  refine ⟨gc, 0, rs[i].1, rs[i].2.1, rs[i].2.2, rfl, (Array.getElem?_eq_some_iff.1 q1).1, ?_, h0.1, h0.2.1⟩
  simp [World.cell?, q1, hir]
  rfl
/-- The copy, as far as it is filled. -/
def CpI (w : World) (na N : Nat) (f : Nat → Int → Bool) (j : Nat) (W : World) : Prop :=
  ∃ rs : List SV, rs.length = na ∧ W.heap[w.heap.size]? = some (.cells (rs.map SV.v).toArray 32 (0, 0)) ∧ Keep w W ∧ ∀ i r, i < j → rs[i]? = some r → BgK w.heap.size W r N (f i)

set_option maxRecDepth 100000 in
set_option maxHeartbeats 2000000 in
theorem copy_at {w : World} {A : Option Addr} {na ca N : Nat} {f : Nat → Int → Bool} (hA : Area w A na N f) (hl : na ≤ 1000) (hN : N ≤ 100000) :
    Calls Tryd.prog 41 #[.slice A na ca] w fun e w' => ∃ p1, e = .returned (.func (.func 67) #[] #[.pointer (some ⟨p1, 0, none⟩)]) ∧ Keep w w' ∧ w.heap.size ≤ p1 ∧ w'.heap.size = p1 + 1 ∧ Boxed w' p1 22 (.slice (some ⟨w.heap.size, 0, none⟩) na na) ∧ CpR w.heap.size w.heap.size na N f w' := by
  obtain ⟨i0, hi, hz0, hz1, hz2⟩ := info_parts infoSps
  have HA := Lib.hid hA
  have hkl : (na : Int) ≤ 1000 := by omega
  have hmk : (Instr.makeSlice 22 (.int .i64 (na : Int)) (.int .i64 (na : Int))).run Tryd.prog w = .ok (.slice (some ⟨w.heap.size, 0, none⟩) na na) (w.alloc (.cells (madeCells (Value.slice none 0 0).cells (na * i0.size)) 32)) := by
    have := run_make (P := Tryd.prog) w 22 32 i0 (.slice none 0 0) Tryd.underlying22 hi hz0 .i64 .i64 (na : Int) (na : Int) (by omega) (by omega) (by rw [hz2]; omega) (by omega)
    simpa using this
  rw [hz1, Nat.mul_one] at hmk
  have bR := World.alloc_heap_new w (.cells (madeCells #[.slice none 0 0] na) 32)
  rw [madeCells_none] at bR
  have hst : CpI w na N f 0 (w.alloc (.cells (madeCells #[.slice none 0 0] na) 32)) := by
    refine ⟨List.replicate na (none, 0, 0), by simp, ?_, (Keep.refl w).alloc _, fun i r hi _ => by omega⟩
    rw [madeCells_none]
    exact bR
  have HST := Lib.hid hst
  clear hA bR hst
  go_enter Tryd.func41, Tryd.ntmps41
  go_wp2_with fail
  clear hmk
  generalize w.alloc (.cells (madeCells #[.slice none 0 0] na) 32) = W0 at *
  go_loopw [11] (fun i wr => ∃ (j : Nat), i = .int .i64 j ∧ j ≤ na ∧ Hid (CpI w na N f j wr)) (fun i _ => na - (intOf i).toNat)
  case atStart => exact ⟨0, rfl, Nat.zero_le _, HST⟩
  case round =>
    obtain ⟨j, rfl, hj, HI⟩ := hrel
    clear HST
    by_cases hlt : j < na
    · have hjm : (j : Int) < (na : Int) := by omega
      obtain ⟨rs, q0, q1, q2, q3⟩ := HI.out
      obtain ⟨b, off, a, m0, d, e, hb, hc0, ⟨zs, hz, hq⟩, hle⟩ := HA.out.row j hlt
      subst e
      have c0 := (q2.cell (p := ⟨b, off + j, none⟩) hb).trans hc0
      have HC := Lib.hid (clone_sp a m0 d zs wr (hz.keep q2).prs hz.nil (by omega))
      have HZ := Lib.hid (And.intro hz.ok (And.intro hq (And.intro hle hz.len)))
      have HQ := Lib.hid (And.intro q0 (And.intro q1 (And.intro q2 q3)))
      have hlt1 : w.heap.size < wr.heap.size := (Array.getElem?_eq_some_iff.1 q1).1
      have hfro : ∀ X, Keep wr X → X.frozen? ⟨w.heap.size, j, none⟩ = false ∧ (X.cell? ⟨w.heap.size, j, none⟩).isSome := fun X hX => by
        have := (hX.block _ hlt1).trans q1
        refine ⟨by simp [World.frozen?, this], ?_⟩
        simp [World.cell?, this, q0, hlt]
      have HF := Lib.hid hfro
      clear q0 q1 q2 q3 hz hq hc0 hb hle hfro
      go_wp2_with fail
      go_at_call 38
      refine HC.out.mono ?_
      rintro e w2 ⟨A', c', rfl, ho, hk⟩
      obtain ⟨hf, hc⟩ := HF.out w2 hk
      obtain ⟨u, hu⟩ := Option.isSome_iff_exists.1 hc
      have HO := Lib.hid ho
      have HK := Lib.hid hk
      clear ho hk hc c0 HC
      go_wp2_with fail
      have hi : CpI w na N f (j + 1) (w2.setCell ⟨w.heap.size, j, none⟩ (.slice A' m0 c')) := by
        obtain ⟨q0, q1, q2, q3⟩ := HQ.out
        obtain ⟨l1, l2, l3, l4⟩ := HZ.out
        have hO : Only (fun k => k = w.heap.size) wr (w2.setCell ⟨w.heap.size, j, none⟩ (.slice A' m0 c')) := (Only.of_keep _ HK.out).setCell _ _ rfl
        have hO2 : Only (fun k => k = w.heap.size) w2 (w2.setCell ⟨w.heap.size, j, none⟩ (.slice A' m0 c')) := (Only.refl _ w2).setCell _ _ rfl
        have hrow := (HK.out.block _ hlt1).trans q1
        refine ⟨rs.set j (A', m0, c'), by simp [q0], ?_, Only.keep q2 hO (fun k h => by omega), ?_⟩
        · rw [set_row hrow j _, List.map_set, List.setIfInBounds_toArray]
          rfl
        · intro i r hij hir
          by_cases hix : i = j
          · subst hix
            rw [List.getElem?_set_self (by omega)] at hir
            obtain rfl := Option.some.inj hir
            have h0 : BgK wr.heap.size w2 (A', m0, c') N (f i) := bgK_own HO.out l4 l1 l2 l3
            exact (show BgK w.heap.size w2 (A', m0, c') N (f i) from ⟨h0.1, h0.2.1, h0.2.2.mono (by omega)⟩).only hO2 (fun a e hk => by have := (h0.2.2.2 a e).1; omega)
          · rw [List.getElem?_set_ne (fun e => hix e.symm)] at hir
            have h0 := q3 i r (by omega) hir
            exact h0.only hO (fun a e hk => h0.not_row q1 a e hk)
      have HI2 := Lib.hid hi
      clear hi hf hu HO HK
      go_roundw
      case rel => exact ⟨j + 1, by go_num, hlt, HI2⟩
      case measure => simp [intOf]; omega
    · obtain rfl : j = na := by omega
      clear hlt
      obtain ⟨rs, q0, q1, q2, q3⟩ := HI.out
      have hA2 : CpR w.heap.size w.heap.size j N f wr := ⟨rs, q0, q1, q3⟩
      have HA2 := Lib.hid hA2
      have HK2 := Lib.hid q2
      clear q0 q1 q2 q3 hA2 HI
      go_wp2_with fail
      go_at_call 47
      refine (cells_at (some ⟨w.heap.size, 0, none⟩) j j wr).mono ?_
      rintro e w1 ⟨rfl, hw1⟩
      have hk1 : Keep wr w1 := by rw [hw1]; exact (Keep.refl wr).alloc _
      have hs1 : w1.heap.size = wr.heap.size + 1 := by rw [hw1]; simp
      have hb1 : Boxed w1 wr.heap.size 22 (.slice (some ⟨w.heap.size, 0, none⟩) j j) := by rw [hw1]; exact Boxed.new wr 22 _
      have HE := Lib.hid (And.intro (HK2.out.trans hk1) (And.intro HK2.out.size (And.intro hs1 (And.intro hb1 (HA2.out.stay (Only.of_keep (fun _ => False) hk1) (spStay_of_keep hk1) (fun h => h))))))
      clear hk1 hs1 hb1 hw1
      go_wp2
      exact bodyPost_ret (v := .func (.func 67) #[] #[.pointer (some ⟨wr.heap.size, 0, none⟩)]) (by simp [results, Tryd.f41, go_sem]) rfl ⟨wr.heap.size, rfl, HE.out⟩
end Go.Proofs.YtmdhbbibghpijaaDoor
