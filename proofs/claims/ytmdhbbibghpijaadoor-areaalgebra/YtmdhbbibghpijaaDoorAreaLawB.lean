/- AreaAlgebra: areas are an algebra; empty labels at the end make no difference. -/
import Derived.Test.YtmdhbbibghpijaaDoorAreaArg2
import Derived.Test.YtmdhbbibghpijaaDoorAreaTells
import Derived.Test.YtmdhbbibghpijaaDoorSeqR
import Derived.Deep.CutRange
namespace Go.Proofs.YtmdhbbibghpijaaDoor
open Go.RowKit

theorem u32_less (a b : Nat) (h : ∀ i, a.testBit i = true → b.testBit i = true) (ha : a < 4294967296) (hb : b < 4294967296) : bits BinOp.andNot IntKind.u32 (a : Int) (b : Int) = 0 := by
  have e1 : (BitVec.ofInt 32 (a : Int) &&& ~~~ BitVec.ofInt 32 (b : Int)) = 0#32 := by
    have ea : BitVec.ofInt 32 (a : Int) = BitVec.ofNat 32 a := by rw [BitVec.ofInt_natCast]
    have eb : BitVec.ofInt 32 (b : Int) = BitVec.ofNat 32 b := by rw [BitVec.ofInt_natCast]
    rw [ea, eb]
    refine BitVec.eq_of_getElem_eq fun i hi => ?_
    have := h i
    simp
    rw [BitVec.getElem_eq_testBit_toNat, BitVec.getElem_eq_testBit_toNat, BitVec.toNat_ofNat, BitVec.toNat_ofNat, Nat.mod_eq_of_lt (by omega), Nat.mod_eq_of_lt (by omega)]
    exact this
  show IntKind.u32.wrap ((BitVec.ofInt 32 (a : Int) &&& ~~~ BitVec.ofInt 32 (b : Int)).toNat : Int) = _
  rw [e1]
  rfl
theorem cell_new (w : World) (lb k : Int) : ∀ X, Keep (w.alloc (.cells #[.int .i64 lb, .int .u32 k] 25)) X → X.cell? ⟨w.heap.size, 0, none⟩ = some (.int .i64 lb) ∧ X.cell? ⟨w.heap.size, 1, none⟩ = some (.int .u32 k) := by
  have hb := World.alloc_heap_new w (.cells #[.int .i64 lb, .int .u32 k] 25)
  have hlt : w.heap.size < (w.alloc (.cells #[.int .i64 lb, .int .u32 k] 25)).heap.size := by simp
  generalize w.alloc (.cells #[.int .i64 lb, .int .u32 k] 25) = W at *
  intro X hX
  have := (hX.block _ hlt).trans hb
  exact ⟨by simp [World.cell?, this], by simp [World.cell?, this]⟩
theorem two_rows (w : World) (v : Value) : Lies (w.alloc (.cells #[.slice none 0 0, v] 32)) (w.heap.size + 1) (some ⟨w.heap.size, 0, none⟩) 2 [.slice none 0 0, v] := by
  have hb := World.alloc_heap_new w (.cells #[.slice none 0 0, v] 32)
  generalize w.alloc (.cells #[.slice none 0 0, v] 32) = W at *
  refine ⟨rfl, fun _ => ⟨w.heap.size, 0, rfl, by omega, fun j hj => ?_⟩⟩
  rcases (show j = 0 ∨ j = 1 by omega) with rfl | rfl
  · simp [World.cell?, hb]
  · simp [World.cell?, hb]
theorem alg1 (a b : Bool) : ((a && !b) || (a && b)) = a := by cases a <;> cases b <;> rfl
theorem alg2 (a b : Bool) : ((a && !b) && b) = false := by cases a <;> cases b <;> rfl
theorem sub_same {f g : Nat → Int → Bool} : sub f g ↔ ∀ i k, (f i k || g i k) = g i k := by
  unfold sub
  constructor
  · intro h i k
    cases hf : f i k with
    | false => rfl
    | true => rw [h i k hf]; rfl
  · intro h i k e
    have := h i k
    cases hf : f i k <;> cases hg : g i k <;> simp_all
theorem more_is {w w' : World} {B : Nat} {A : Option Addr} {n N : Nat} {f : Nat → Int → Bool} {rs : List SV} {a : Option Addr} {c : Nat} (h : Lies w' B A (n + 2) (rs.map SV.v ++ [.slice none 0 0, .slice a 1 c])) (hB : B ≤ w'.heap.size) (hl : rs.length = n) (hk : Keep w w') (ho : ∀ i, n ≤ i → ∀ k, f i k = false)
    (hr : ∀ i r, rs[i]? = some r → Bg w r.1 r.2.1 r.2.2 (f i) ∧ r.2.1 ≤ N) (ha : Arg w' a 1 c [⟨2, 1⟩]) (hN : 1 ≤ N) : Area w' A (n + 2) N f := by
  refine area_of_lies (rs := rs ++ [(none, 0, 0), (a, 1, c)]) (by rw [List.map_append]; exact h) hB (by simp [hl]) (fun i hi k => ho i (by omega) k) (fun i r hir => ?_)
  rcases (show i < n ∨ i = n ∨ i = n + 1 ∨ n + 2 ≤ i by omega) with h1 | rfl | rfl | h1
  · rw [List.getElem?_append_left (by omega)] at hir
    obtain ⟨g1, g2⟩ := hr i r hir
    exact ⟨g1.keep hk, g2⟩
  · rw [List.getElem?_append_right (by omega)] at hir
    simp [hl] at hir
    subst hir
    exact ⟨bg_none _ (fun k => ho _ (by omega) k), Nat.zero_le _⟩
  · rw [List.getElem?_append_right (by omega)] at hir
    simp [hl] at hir
    subst hir
    refine ⟨⟨[⟨2, 1⟩], ha, fun k => ?_⟩, hN⟩
    rw [ho _ (by omega) k, e_has]
    simp
    omega
  · rw [List.getElem?_eq_none (by simp [hl]; omega)] at hir
    cases hir

set_option maxRecDepth 100000 in
set_option maxHeartbeats 16000000 in
theorem algebra_few {w : World} {A B : Option Addr} {na ca nb cb : Nat} {za zb : List (List Sp)} {lb key : Int} (ra : AArg w A na ca za) (rb : AArg w B nb cb zb) (ea : fewB za = true) (eb : fewB zb = true) (hT : Tab w) :
    Calls Tryd.prog 4 #[.slice A na ca, .slice B nb cb, .agg #[.int .i64 lb, .int .u32 key]] w fun e w' => e = .returned (.bool true) ∧ Keep w w' := by
  obtain ⟨i0, hi, hz0, hz1, hz2⟩ := info_parts infoSps
  have la : na ≤ 20 := by rw [← ra.2.2.2.1]; exact (fewB_yes ea).2
  have lb20 : nb ≤ 20 := by rw [← rb.2.2.2.1]; exact (fewB_yes eb).2
  have fa := ra.area (fewB_yes ea).1
  have fb := rb.area (fewB_yes eb).1
  have hca := ra.2.1
  have hnil := ra.2.2.1
  obtain ⟨Ma, hMa⟩ := mask_exists fa (by decide) (by omega)
  obtain ⟨Mb, hMb⟩ := mask_exists fb (by decide) (by omega)
  have hE := Lib.hid (And.intro ea eb)
  obtain ⟨x, hx⟩ : ∃ x, fz (arF za) lb key = x := ⟨_, rfl⟩
  obtain ⟨y, hy⟩ : ∃ y, fz (arF zb) lb key = y := ⟨_, rfl⟩
  obtain ⟨p, hp⟩ := tells_is (sub (arF za) (arF zb))
  have HXY := Lib.hid (And.intro hx (And.intro hy hp))
  have HM := Lib.hid (And.intro hMa hMb)
  have k0 := (Keep.refl w).alloc (.cells #[.int .i64 lb, .int .u32 key] 25)
  have HC := Lib.hid (cell_new w lb key)
  have HCAP := Lib.hid (And.intro hca hnil)
  have HCAPB := Lib.hid rb.2.1
  have Ha := Lib.hid (ra.keep k0)
  have Hb := Lib.hid (rb.keep k0)
  have HT := Lib.hid (hT.below hT.pos k0)
  have HK0 := Lib.hid k0
  have hKc := Keep.refl (w.alloc (.cells #[.int .i64 lb, .int .u32 key] 25))
  clear ra rb ea eb hT hx hy hp k0 fa fb hca hnil hMa hMb
  go_enter Tryd.func4, Tryd.ntmps4
  go_wp2_with fail
  generalize w.alloc (.cells #[.int .i64 lb, .int .u32 key] 25) = W at *
  go_wp2_with fail
  go_at_call 8
  refine (alive_any _ HT.out).mono ?_
  rintro e w101 ⟨rfl, hk⟩
  replace Ha := Lib.hid (Ha.out.keep hk)
  replace Hb := Lib.hid (Hb.out.keep hk)
  replace hKc := hKc.trans hk
  clear hk
  go_wp2_with fail
  go_at_call 9
  refine (few_a Ha.out).mono ?_
  rintro e wfa ⟨rfl, rfl⟩
  rw [hE.out.1]
  go_wp2_with fail
  go_at_call 9
  refine (few_a Hb.out).mono ?_
  rintro e wfb ⟨rfl, rfl⟩
  rw [hE.out.2]
  replace Ha := Lib.hid (Ha.out.area (fewB_yes hE.out.1).1)
  replace Hb := Lib.hid (Hb.out.area (fewB_yes hE.out.2).1)
  go_wp2_with fail
  go_at_call 12
  refine (union_a Ha.out Hb.out (by decide) (by decide) (by omega)).mono ?_
  rintro e w102 ⟨Au, cu, rfl, hk, hu, hcu⟩
  replace Ha := Lib.hid (Ha.out.keep hk)
  replace Hb := Lib.hid (Hb.out.keep hk)
  replace hKc := hKc.trans hk
  clear hk
  have Hu := Lib.hid hu
  clear hu
  go_wp2_with fail
  go_at_call 13
  refine (meet_a Ha.out Hb.out (by decide) (by decide) (by omega)).mono ?_
  rintro e w103 ⟨Am, cm, rfl, hk, hm, hcm⟩
  replace Ha := Lib.hid (Ha.out.keep hk)
  replace Hb := Lib.hid (Hb.out.keep hk)
  replace Hu := Lib.hid (Hu.out.keep hk)
  replace hKc := hKc.trans hk
  clear hk
  have Hm := Lib.hid hm
  clear hm
  go_wp2_with fail
  go_at_call 14
  refine (minus_a Ha.out Hb.out (by decide) (by decide) (by omega)).mono ?_
  rintro e w104 ⟨Ad, cd, rfl, hk, hd, hcd⟩
  replace Ha := Lib.hid (Ha.out.keep hk)
  replace Hb := Lib.hid (Hb.out.keep hk)
  replace Hu := Lib.hid (Hu.out.keep hk)
  replace Hm := Lib.hid (Hm.out.keep hk)
  replace hKc := hKc.trans hk
  clear hk
  have Hd := Lib.hid hd
  clear hd
  go_wp2_with fail
  have HBOX := Lib.hid (show ∀ X, Keep w104 X → X.cell? ⟨w.heap.size, 0, none⟩ = some (.int .i64 lb) ∧ X.cell? ⟨w.heap.size, 1, none⟩ = some (.int .u32 key) from fun X hX => HC.out X (hKc.trans hX))
  have HKB := Lib.hid hKc
  clear hKc
  have hKc := (Keep.refl w104).drew
  refine seq_region (S := fun w' => Keep w104 w') [⟨0, 1, 4294967296⟩, ⟨0, 32, 8589934592⟩, ⟨3, 12884901888, 17179869184⟩, ⟨0, 2, 34359738368⟩, ⟨0, 32, 68719476736⟩, ⟨28, 103079215104, 137438953472⟩, ⟨39, 17179869184, 1024⟩, ⟨127, 137438953472, 2048⟩] [(0, false), (1, false), (3, false), (4, false), (2, true), (5, true), (6, false), (7, false)] rfl (by kernel_rfl) (by kernel_rfl) (fun _ _ d _ _ h => by cases d <;> exact h) hKc ?_
  simp only [rowsOf, rowAt, gslot, List.map_cons, List.map_nil, List.getElem?_toArray, List.getElem?_cons_zero, List.getElem?_cons_succ]
  repeat (first
    | (refine seq_take (v := ?_) (a' := ?_) (by rfl) ?_ ?_ ?_
       rotate_left 2
       · (intro w hSw; have hcs := HBOX.out w hSw; clear hSw; go_split_ands; go_simp; with_reducible rfl)
       · (simp only [Act.put, List.setIfInBounds_toArray, List.set_cons_zero, List.set_cons_succ]; with_reducible rfl))
    | (refine seq_skip (a' := ?_) hKc (by rfl) ?_ ?_
       rotate_left
       · (simp only [Act.put, List.setIfInBounds_toArray, List.set_cons_zero, List.set_cons_succ]; with_reducible rfl)))
  refine seq_callR (R := fun _ => True) (f := 20) (args := ?_) (v := ?_) (a' := ?_) (by rfl) (by rfl) (by rfl) Tryd.call20 ?_ ?_ ?_ ?_
  rotate_left 3
  · (go_simp; with_reducible rfl)
  · ((with_reducible refine Calls.mono (has_v lb key x (Ha.out.keep hKc) (by decide) HXY.out.1) ?_)
     rintro e w' ⟨rfl, hk⟩
     refine ⟨?_, hKc.trans hk, trivial⟩
     with_reducible rfl)
  · (simp only [Act.put, List.setIfInBounds_toArray, List.set_cons_zero, List.set_cons_succ]; with_reducible rfl)
  clear hKc
  intro wn hKc _
  repeat (first
    | (refine seq_take (v := ?_) (a' := ?_) (by rfl) ?_ ?_ ?_
       rotate_left 2
       · (intro w hSw; have hcs := HBOX.out w hSw; clear hSw; go_split_ands; go_simp; with_reducible rfl)
       · (simp only [Act.put, List.setIfInBounds_toArray, List.set_cons_zero, List.set_cons_succ]; with_reducible rfl))
    | (refine seq_skip (a' := ?_) hKc (by rfl) ?_ ?_
       rotate_left
       · (simp only [Act.put, List.setIfInBounds_toArray, List.set_cons_zero, List.set_cons_succ]; with_reducible rfl)))
  refine seq_callR (R := fun _ => True) (f := 20) (args := ?_) (v := ?_) (a' := ?_) (by rfl) (by rfl) (by rfl) Tryd.call20 ?_ ?_ ?_ ?_
  rotate_left 3
  · (go_simp; with_reducible rfl)
  · ((with_reducible refine Calls.mono (has_v lb key y (Hb.out.keep hKc) (by decide) HXY.out.2.1) ?_)
     rintro e w' ⟨rfl, hk⟩
     refine ⟨?_, hKc.trans hk, trivial⟩
     with_reducible rfl)
  · (simp only [Act.put, List.setIfInBounds_toArray, List.set_cons_zero, List.set_cons_succ]; with_reducible rfl)
  clear hKc
  intro wn hKc _
  repeat (first
    | (refine seq_take (v := ?_) (a' := ?_) (by rfl) ?_ ?_ ?_
       rotate_left 2
       · (intro w hSw; have hcs := HBOX.out w hSw; clear hSw; go_split_ands; go_simp; with_reducible rfl)
       · (simp only [Act.put, List.setIfInBounds_toArray, List.set_cons_zero, List.set_cons_succ]; with_reducible rfl))
    | (refine seq_skip (a' := ?_) hKc (by rfl) ?_ ?_
       rotate_left
       · (simp only [Act.put, List.setIfInBounds_toArray, List.set_cons_zero, List.set_cons_succ]; with_reducible rfl)))
  refine seq_nil ?_
  replace Ha := Lib.hid (Ha.out.keep hKc)
  replace Hb := Lib.hid (Hb.out.keep hKc)
  replace Hu := Lib.hid (Hu.out.keep hKc)
  replace Hm := Lib.hid (Hm.out.keep hKc)
  replace Hd := Lib.hid (Hd.out.keep hKc)
  replace hKc := HKB.out.trans hKc
  clear HKB HBOX
  rename World => V
  go_upto_region 7 with fail
  go_cut [66] from 38 to 65 (fun s66 wx => s66 = .bool false ∧ Keep V wx)
  case first =>
    have HV := Lib.hid hKc
    clear hKc
    have hKc := (Keep.refl V)
    cases x
    · cases y
      · have ⟨c0, c1⟩ := HC.out _ HV.out
        go_wp2_with fail
        go_at_call 20
        refine (has_v lb key false Hu.out.area (by decide) (by rw [fz_or, HXY.out.1, HXY.out.2.1]; rfl)).mono ?_
        rintro e w201 ⟨rfl, hk⟩
        replace Ha := Lib.hid (Ha.out.keep hk)
        replace Hb := Lib.hid (Hb.out.keep hk)
        replace Hu := Lib.hid (Hu.out.keep hk)
        replace Hm := Lib.hid (Hm.out.keep hk)
        replace Hd := Lib.hid (Hd.out.keep hk)
        replace hKc := hKc.trans hk
        clear hk
        clear c0 c1
        have ⟨c0, c1⟩ := HC.out _ (HV.out.trans hKc)
        go_wp2_with fail
        go_at_call 20
        refine (has_v lb key false Hm.out.area (by decide) (by rw [fz_and, HXY.out.1, HXY.out.2.1]; rfl)).mono ?_
        rintro e w202 ⟨rfl, hk⟩
        replace Ha := Lib.hid (Ha.out.keep hk)
        replace Hb := Lib.hid (Hb.out.keep hk)
        replace Hu := Lib.hid (Hu.out.keep hk)
        replace Hm := Lib.hid (Hm.out.keep hk)
        replace Hd := Lib.hid (Hd.out.keep hk)
        replace hKc := hKc.trans hk
        clear hk
        clear c0 c1
        have ⟨c0, c1⟩ := HC.out _ (HV.out.trans hKc)
        go_wp2_with fail
        go_at_call 20
        refine (has_v lb key false Hd.out.area (by decide) (by rw [fz_minus, HXY.out.1, HXY.out.2.1]; rfl)).mono ?_
        rintro e w203 ⟨rfl, hk⟩
        replace Ha := Lib.hid (Ha.out.keep hk)
        replace Hb := Lib.hid (Hb.out.keep hk)
        replace Hu := Lib.hid (Hu.out.keep hk)
        replace Hm := Lib.hid (Hm.out.keep hk)
        replace Hd := Lib.hid (Hd.out.keep hk)
        replace hKc := hKc.trans hk
        clear hk
        clear c0 c1
        go_wp2_with fail
        go_meet
        exact ⟨rfl, hKc⟩
      · have ⟨c0, c1⟩ := HC.out _ HV.out
        go_wp2_with fail
        go_at_call 20
        refine (has_v lb key true Hu.out.area (by decide) (by rw [fz_or, HXY.out.1, HXY.out.2.1]; rfl)).mono ?_
        rintro e w201 ⟨rfl, hk⟩
        replace Ha := Lib.hid (Ha.out.keep hk)
        replace Hb := Lib.hid (Hb.out.keep hk)
        replace Hu := Lib.hid (Hu.out.keep hk)
        replace Hm := Lib.hid (Hm.out.keep hk)
        replace Hd := Lib.hid (Hd.out.keep hk)
        replace hKc := hKc.trans hk
        clear hk
        clear c0 c1
        have ⟨c0, c1⟩ := HC.out _ (HV.out.trans hKc)
        go_wp2_with fail
        go_at_call 20
        refine (has_v lb key false Hm.out.area (by decide) (by rw [fz_and, HXY.out.1, HXY.out.2.1]; rfl)).mono ?_
        rintro e w202 ⟨rfl, hk⟩
        replace Ha := Lib.hid (Ha.out.keep hk)
        replace Hb := Lib.hid (Hb.out.keep hk)
        replace Hu := Lib.hid (Hu.out.keep hk)
        replace Hm := Lib.hid (Hm.out.keep hk)
        replace Hd := Lib.hid (Hd.out.keep hk)
        replace hKc := hKc.trans hk
        clear hk
        clear c0 c1
        have ⟨c0, c1⟩ := HC.out _ (HV.out.trans hKc)
        go_wp2_with fail
        go_at_call 20
        refine (has_v lb key false Hd.out.area (by decide) (by rw [fz_minus, HXY.out.1, HXY.out.2.1]; rfl)).mono ?_
        rintro e w203 ⟨rfl, hk⟩
        replace Ha := Lib.hid (Ha.out.keep hk)
        replace Hb := Lib.hid (Hb.out.keep hk)
        replace Hu := Lib.hid (Hu.out.keep hk)
        replace Hm := Lib.hid (Hm.out.keep hk)
        replace Hd := Lib.hid (Hd.out.keep hk)
        replace hKc := hKc.trans hk
        clear hk
        clear c0 c1
        go_wp2_with fail
        go_meet
        exact ⟨rfl, hKc⟩
    · cases y
      · have ⟨c0, c1⟩ := HC.out _ HV.out
        go_wp2_with fail
        go_at_call 20
        refine (has_v lb key true Hu.out.area (by decide) (by rw [fz_or, HXY.out.1, HXY.out.2.1]; rfl)).mono ?_
        rintro e w201 ⟨rfl, hk⟩
        replace Ha := Lib.hid (Ha.out.keep hk)
        replace Hb := Lib.hid (Hb.out.keep hk)
        replace Hu := Lib.hid (Hu.out.keep hk)
        replace Hm := Lib.hid (Hm.out.keep hk)
        replace Hd := Lib.hid (Hd.out.keep hk)
        replace hKc := hKc.trans hk
        clear hk
        clear c0 c1
        have ⟨c0, c1⟩ := HC.out _ (HV.out.trans hKc)
        go_wp2_with fail
        go_at_call 20
        refine (has_v lb key false Hm.out.area (by decide) (by rw [fz_and, HXY.out.1, HXY.out.2.1]; rfl)).mono ?_
        rintro e w202 ⟨rfl, hk⟩
        replace Ha := Lib.hid (Ha.out.keep hk)
        replace Hb := Lib.hid (Hb.out.keep hk)
        replace Hu := Lib.hid (Hu.out.keep hk)
        replace Hm := Lib.hid (Hm.out.keep hk)
        replace Hd := Lib.hid (Hd.out.keep hk)
        replace hKc := hKc.trans hk
        clear hk
        clear c0 c1
        have ⟨c0, c1⟩ := HC.out _ (HV.out.trans hKc)
        go_wp2_with fail
        go_at_call 20
        refine (has_v lb key true Hd.out.area (by decide) (by rw [fz_minus, HXY.out.1, HXY.out.2.1]; rfl)).mono ?_
        rintro e w203 ⟨rfl, hk⟩
        replace Ha := Lib.hid (Ha.out.keep hk)
        replace Hb := Lib.hid (Hb.out.keep hk)
        replace Hu := Lib.hid (Hu.out.keep hk)
        replace Hm := Lib.hid (Hm.out.keep hk)
        replace Hd := Lib.hid (Hd.out.keep hk)
        replace hKc := hKc.trans hk
        clear hk
        clear c0 c1
        go_wp2_with fail
        go_meet
        exact ⟨rfl, hKc⟩
      · have ⟨c0, c1⟩ := HC.out _ HV.out
        go_wp2_with fail
        go_at_call 20
        refine (has_v lb key true Hu.out.area (by decide) (by rw [fz_or, HXY.out.1, HXY.out.2.1]; rfl)).mono ?_
        rintro e w201 ⟨rfl, hk⟩
        replace Ha := Lib.hid (Ha.out.keep hk)
        replace Hb := Lib.hid (Hb.out.keep hk)
        replace Hu := Lib.hid (Hu.out.keep hk)
        replace Hm := Lib.hid (Hm.out.keep hk)
        replace Hd := Lib.hid (Hd.out.keep hk)
        replace hKc := hKc.trans hk
        clear hk
        clear c0 c1
        have ⟨c0, c1⟩ := HC.out _ (HV.out.trans hKc)
        go_wp2_with fail
        go_at_call 20
        refine (has_v lb key true Hm.out.area (by decide) (by rw [fz_and, HXY.out.1, HXY.out.2.1]; rfl)).mono ?_
        rintro e w202 ⟨rfl, hk⟩
        replace Ha := Lib.hid (Ha.out.keep hk)
        replace Hb := Lib.hid (Hb.out.keep hk)
        replace Hu := Lib.hid (Hu.out.keep hk)
        replace Hm := Lib.hid (Hm.out.keep hk)
        replace Hd := Lib.hid (Hd.out.keep hk)
        replace hKc := hKc.trans hk
        clear hk
        clear c0 c1
        have ⟨c0, c1⟩ := HC.out _ (HV.out.trans hKc)
        go_wp2_with fail
        go_at_call 20
        refine (has_v lb key false Hd.out.area (by decide) (by rw [fz_minus, HXY.out.1, HXY.out.2.1]; rfl)).mono ?_
        rintro e w203 ⟨rfl, hk⟩
        replace Ha := Lib.hid (Ha.out.keep hk)
        replace Hb := Lib.hid (Hb.out.keep hk)
        replace Hu := Lib.hid (Hu.out.keep hk)
        replace Hm := Lib.hid (Hm.out.keep hk)
        replace Hd := Lib.hid (Hd.out.keep hk)
        replace hKc := hKc.trans hk
        clear hk
        clear c0 c1
        go_wp2_with fail
        go_meet
        exact ⟨rfl, hKc⟩
  case rest =>
    obtain ⟨rfl, hk⟩ := hcut
    replace Ha := Lib.hid (Ha.out.keep hk)
    replace Hb := Lib.hid (Hb.out.keep hk)
    replace Hu := Lib.hid (Hu.out.keep hk)
    replace Hm := Lib.hid (Hm.out.keep hk)
    replace Hd := Lib.hid (Hd.out.keep hk)
    replace hKc := hKc.trans hk
    clear hk
    rename World => w203
    obtain ⟨rs, hrl, hlies, hrs⟩ := area_row Ha.out
    have HRS := Lib.hid (And.intro hrl (And.intro hlies hrs))
    clear hrl hlies hrs
    have HO0 := Lib.hid (World.ownsRow_made (base := w203.heap.size) (e := 32) (size := 1) w203 #[] 0 (Nat.le_refl _) (Nat.zero_le _) rfl)
    have HK1 := Lib.hid (show Keep w203 (w203.alloc (.cells #[] 32)) from (Keep.refl _).alloc _)
    have hml : 0 + na ≤ maxLen := by unfold maxLen; omega
    have hml2 : na + 2 ≤ maxLen := by unfold maxLen; omega
    go_wp2_with (first
      | (at_builtin; refine wpList_append_from rfl _ _ 22 rfl w203.heap.size 32 i0 (.slice none 0 0) 24 Tryd.underlying22 hi hz0 hz1 hz2 rfl _ na (rs.map SV.v) rfl ((HO1.out.alloc _).alloc _) _ (some ⟨W1.heap.size + 1, 0, none⟩) 2 2 [.slice none 0 0, .slice (some ⟨W1.heap.size, 0, none⟩) 1 1] rfl HTR.out (fun h => by cases h) (fun u hu => by simp at hu; rcases hu with rfl | rfl <;> rfl) hml2 (by omega) (by have := HK2.out.size; simp at this ⊢; omega) ?_; intro A3 c3 W3 hown3 hgrow3 hat3; have HO3 := Lib.hid hown3; have HK3 := Lib.hid (keep_grown ((HK2.out.alloc _).alloc _) ((HO1.out.alloc _).alloc _) hgrow3); have HON3 := Lib.hid ((Only.refl (fun k => k < W1.heap.size) _).grown hgrow3 (fun k _ e => (HO1.out.lt k e).2)); clear hown3 hgrow3 hat3)
      | (at_builtin; go_must (refine wpList_append_from rfl _ _ 22 rfl w203.heap.size 32 i0 (.slice none 0 0) 24 Tryd.underlying22 hi hz0 hz1 hz2 rfl _ 0 [] rfl HO0.out w203.heap.size A na ca (rs.map SV.v) rfl (HRS.out.2.1.below HK1.out) HCAP.out.2 (SV.one rs) hml (by omega) (by simp) ?_); intro A1 c1 W1 hown1 hgrow1 hat1; have HK2 := Lib.hid (keep_grown HK1.out HO0.out hgrow1); rw [Nat.zero_add, List.nil_append] at hown1; rw [Nat.zero_add]; have HO1 := Lib.hid hown1; have HTR := Lib.hid (two_rows (W1.alloc (.cells #[.int .u32 2, .int .u32 1] 37)) (.slice (some ⟨W1.heap.size, 0, none⟩) 1 1)); simp only [World.size_alloc] at HTR; clear hown1 hgrow1 hat1))
    have hmo : Area W3 A3 (na + 2) 20 (arF za) := by
      obtain ⟨g1, g2, g3⟩ := HRS.out
      obtain ⟨A7, c7, e7, h7⟩ := Lies.of_row HO3.out
      have e8 : A7 = A3 := by injection e7 with h1 h2 h3; exact h1.symm
      rw [e8] at h7
      have s1 := arg_made W1 #[.int .u32 2, .int .u32 1] [⟨2, 1⟩] 1 rfl rfl (by simp [Sp.ok])
      have s2 := s1.keep ((Keep.refl _).alloc (.cells #[.slice none 0 0, .slice (some ⟨W1.heap.size, 0, none⟩) 1 1] 32))
      have s3 : Arg W3 (some ⟨W1.heap.size, 0, none⟩) 1 1 [⟨2, 1⟩] := ⟨(s2.prs.only HON3.out (Nat.le_refl _) (fun b off e => by cases e; omega)).more HON3.out.size, s2.cap, s2.nil, s2.ok⟩
      exact more_is h7 (Nat.le_refl _) g1 HK3.out Ha.out.out g3 s3 (by decide)
    have Hmo := Lib.hid hmo
    replace Ha := Lib.hid (Ha.out.keep HK3.out)
    replace Hb := Lib.hid (Hb.out.keep HK3.out)
    replace Hu := Lib.hid (Hu.out.keep HK3.out)
    replace Hm := Lib.hid (Hm.out.keep HK3.out)
    replace Hd := Lib.hid (Hd.out.keep HK3.out)
    replace hKc := hKc.trans HK3.out
    clear hmo HO0 HK1 HO1 HK2 HTR HO3 HK3 HON3 HRS hml hml2
    go_wp2_with fail
    go_at_call 24
    refine (same_a true Hmo.out Ha.out (by decide) (by decide) (by omega) ⟨fun _ _ _ => rfl, fun _ => rfl⟩).mono ?_
    rintro e w204 ⟨rfl, hk⟩
    replace Ha := Lib.hid (Ha.out.keep hk)
    replace Hb := Lib.hid (Hb.out.keep hk)
    replace Hu := Lib.hid (Hu.out.keep hk)
    replace Hm := Lib.hid (Hm.out.keep hk)
    replace Hd := Lib.hid (Hd.out.keep hk)
    replace Hmo := Lib.hid (Hmo.out.keep hk)
    replace hKc := hKc.trans hk
    clear hk
    clear Hmo
    go_wp2_with fail
    go_at_call 12
    refine (union_n (max na nb) (by omega) Hd.out.area Hm.out.area (by decide) (by decide) (by omega)).mono ?_
    rintro e w205 ⟨As, cs, rfl, hk, hs, hcs⟩
    replace Ha := Lib.hid (Ha.out.keep hk)
    replace Hb := Lib.hid (Hb.out.keep hk)
    replace Hu := Lib.hid (Hu.out.keep hk)
    replace Hm := Lib.hid (Hm.out.keep hk)
    replace Hd := Lib.hid (Hd.out.keep hk)
    replace hKc := hKc.trans hk
    clear hk
    have Hs := Lib.hid hs
    clear hs
    go_wp2_with fail
    go_at_call 24
    refine (same_a true Hs.out.area Ha.out (by decide) (by decide) (by omega) ⟨fun _ _ _ => alg1 _ _, fun _ => rfl⟩).mono ?_
    rintro e w206 ⟨rfl, hk⟩
    replace Ha := Lib.hid (Ha.out.keep hk)
    replace Hb := Lib.hid (Hb.out.keep hk)
    replace Hu := Lib.hid (Hu.out.keep hk)
    replace Hm := Lib.hid (Hm.out.keep hk)
    replace Hd := Lib.hid (Hd.out.keep hk)
    replace Hs := Lib.hid (Hs.out.keep hk)
    replace hKc := hKc.trans hk
    clear hk
    clear Hs
    go_wp2_with fail
    go_at_call 13
    refine (meet_n (max na nb) (by omega) Hd.out.area Hb.out (by decide) (by decide) (by omega)).mono ?_
    rintro e w207 ⟨At, ct, rfl, hk, ht, hct⟩
    replace Ha := Lib.hid (Ha.out.keep hk)
    replace Hb := Lib.hid (Hb.out.keep hk)
    replace Hu := Lib.hid (Hu.out.keep hk)
    replace Hm := Lib.hid (Hm.out.keep hk)
    replace Hd := Lib.hid (Hd.out.keep hk)
    replace hKc := hKc.trans hk
    clear hk
    have Ht := Lib.hid ht
    clear ht
    go_wp2_with fail
    go_at_call 26
    refine (empty_a true Ht.out.area (by decide) (by omega) ⟨fun _ _ _ => alg2 _ _, fun _ => rfl⟩).mono ?_
    rintro e w208 ⟨rfl, hk⟩
    replace Ha := Lib.hid (Ha.out.keep hk)
    replace Hb := Lib.hid (Hb.out.keep hk)
    replace Hu := Lib.hid (Hu.out.keep hk)
    replace Hm := Lib.hid (Hm.out.keep hk)
    replace Hd := Lib.hid (Hd.out.keep hk)
    replace Ht := Lib.hid (Ht.out.keep hk)
    replace hKc := hKc.trans hk
    clear hk
    clear Ht
    go_wp2_with fail
    go_at_call 22
    refine (within_a p Ha.out Hb.out (by decide) (by decide) (by omega) HXY.out.2.2.iff).mono ?_
    rintro e w209 ⟨rfl, hk⟩
    replace Ha := Lib.hid (Ha.out.keep hk)
    replace Hb := Lib.hid (Hb.out.keep hk)
    replace Hu := Lib.hid (Hu.out.keep hk)
    replace Hm := Lib.hid (Hm.out.keep hk)
    replace Hd := Lib.hid (Hd.out.keep hk)
    replace hKc := hKc.trans hk
    clear hk
    go_wp2_with fail
    go_at_call 24
    refine (same_a p Hu.out.area Hb.out (by decide) (by decide) (by omega) (HXY.out.2.2.iff.trans sub_same)).mono ?_
    rintro e w210 ⟨rfl, hk⟩
    replace Ha := Lib.hid (Ha.out.keep hk)
    replace Hb := Lib.hid (Hb.out.keep hk)
    replace Hu := Lib.hid (Hu.out.keep hk)
    replace Hm := Lib.hid (Hm.out.keep hk)
    replace Hd := Lib.hid (Hd.out.keep hk)
    replace hKc := hKc.trans hk
    clear hk
    obtain ⟨mu, hmu⟩ := mask_exists Hu.out.area (by decide) (by omega)
    have hor := u32_or Ma Mb HM.out.1.1 HM.out.2.1
    rw [← mask_or HM.out.1 HM.out.2 hmu] at hor
    have HMU := Lib.hid hmu
    clear hmu
    have hcu' : max na nb ≤ cu := hcu
    have hcm' : max na nb ≤ cm := hcm
    go_wp2_with fail
    go_at_call 27
    refine (mask_v Hu.out.area (by decide) (by omega) hcu' HMU.out).mono ?_
    rintro e w211 ⟨rfl, hk⟩
    replace Ha := Lib.hid (Ha.out.keep hk)
    replace Hb := Lib.hid (Hb.out.keep hk)
    replace Hu := Lib.hid (Hu.out.keep hk)
    replace Hm := Lib.hid (Hm.out.keep hk)
    replace Hd := Lib.hid (Hd.out.keep hk)
    replace hKc := hKc.trans hk
    clear hk
    go_wp2_with fail
    go_at_call 27
    refine (mask_v Ha.out (by decide) (by omega) HCAP.out.1 HM.out.1).mono ?_
    rintro e w212 ⟨rfl, hk⟩
    replace Ha := Lib.hid (Ha.out.keep hk)
    replace Hb := Lib.hid (Hb.out.keep hk)
    replace Hu := Lib.hid (Hu.out.keep hk)
    replace Hm := Lib.hid (Hm.out.keep hk)
    replace Hd := Lib.hid (Hd.out.keep hk)
    replace hKc := hKc.trans hk
    clear hk
    go_wp2_with fail
    go_at_call 27
    refine (mask_v Hb.out (by decide) (by omega) HCAPB.out HM.out.2).mono ?_
    rintro e w213 ⟨rfl, hk⟩
    replace Ha := Lib.hid (Ha.out.keep hk)
    replace Hb := Lib.hid (Hb.out.keep hk)
    replace Hu := Lib.hid (Hu.out.keep hk)
    replace Hm := Lib.hid (Hm.out.keep hk)
    replace Hd := Lib.hid (Hd.out.keep hk)
    replace hKc := hKc.trans hk
    clear hk
    obtain ⟨mm, hmm⟩ := mask_exists Hm.out.area (by decide) (by omega)
    have hls := u32_less mm Ma (fun i h => mask_sub HM.out.1 hmm i h) hmm.1 HM.out.1.1
    have HMM := Lib.hid hmm
    clear hmm
    go_wp2_with fail
    go_at_call 27
    refine (mask_v Hm.out.area (by decide) (by omega) hcm' HMM.out).mono ?_
    rintro e w214 ⟨rfl, hk⟩
    replace Ha := Lib.hid (Ha.out.keep hk)
    replace Hb := Lib.hid (Hb.out.keep hk)
    replace Hu := Lib.hid (Hu.out.keep hk)
    replace Hm := Lib.hid (Hm.out.keep hk)
    replace Hd := Lib.hid (Hd.out.keep hk)
    replace hKc := hKc.trans hk
    clear hk
    go_wp2_with fail
    go_at_call 27
    refine (mask_v Ha.out (by decide) (by omega) HCAP.out.1 HM.out.1).mono ?_
    rintro e w215 ⟨rfl, hk⟩
    replace Ha := Lib.hid (Ha.out.keep hk)
    replace Hb := Lib.hid (Hb.out.keep hk)
    replace Hu := Lib.hid (Hu.out.keep hk)
    replace Hm := Lib.hid (Hm.out.keep hk)
    replace Hd := Lib.hid (Hd.out.keep hk)
    replace hKc := hKc.trans hk
    clear hk
    go_wp2
    go_ret
    exact ⟨rfl, HK0.out.trans hKc⟩

set_option maxRecDepth 100000 in
set_option maxHeartbeats 16000000 in
theorem algebra_long {w : World} {A B : Option Addr} {na ca nb cb : Nat} {za zb : List (List Sp)} {lb key : Int} (ra : AArg w A na ca za) (rb : AArg w B nb cb zb) (he : ¬ (fewB za = true ∧ fewB zb = true)) (hT : Tab w) :
    Calls Tryd.prog 4 #[.slice A na ca, .slice B nb cb, .agg #[.int .i64 lb, .int .u32 key]] w fun e w' => e = .returned (.bool true) ∧ Keep w w' := by
  have k0 := (Keep.refl w).alloc (.cells #[.int .i64 lb, .int .u32 key] 25)
  have Ha := Lib.hid (ra.keep k0)
  have Hb := Lib.hid (rb.keep k0)
  have HT := Lib.hid (hT.below hT.pos k0)
  have HK0 := Lib.hid k0
  have hKc := Keep.refl (w.alloc (.cells #[.int .i64 lb, .int .u32 key] 25))
  clear ra rb hT k0
  cases ha : fewB za
  · clear he
    go_enter Tryd.func4, Tryd.ntmps4
    go_wp2_with fail
    generalize w.alloc (.cells #[.int .i64 lb, .int .u32 key] 25) = W at *
    go_wp2_with fail
    go_at_call 8
    refine (alive_any _ HT.out).mono ?_
    rintro e w101 ⟨rfl, hk⟩
    replace Ha := Lib.hid (Ha.out.keep hk)
    replace Hb := Lib.hid (Hb.out.keep hk)
    replace hKc := hKc.trans hk
    clear hk
    go_wp2_with fail
    go_at_call 9
    refine (few_a Ha.out).mono ?_
    rintro e wfa ⟨rfl, rfl⟩
    rw [ha]
    go_wp2
    go_ret
    exact ⟨rfl, HK0.out.trans hKc⟩
  · have hb : fewB zb = false := by cases hb : fewB zb <;> simp_all
    clear he
    go_enter Tryd.func4, Tryd.ntmps4
    go_wp2_with fail
    generalize w.alloc (.cells #[.int .i64 lb, .int .u32 key] 25) = W at *
    go_wp2_with fail
    go_at_call 8
    refine (alive_any _ HT.out).mono ?_
    rintro e w101 ⟨rfl, hk⟩
    replace Ha := Lib.hid (Ha.out.keep hk)
    replace Hb := Lib.hid (Hb.out.keep hk)
    replace hKc := hKc.trans hk
    clear hk
    go_wp2_with fail
    go_at_call 9
    refine (few_a Ha.out).mono ?_
    rintro e wfa ⟨rfl, rfl⟩
    rw [ha]
    go_wp2_with fail
    go_at_call 9
    refine (few_a Hb.out).mono ?_
    rintro e wfb ⟨rfl, rfl⟩
    rw [hb]
    go_wp2
    go_ret
    exact ⟨rfl, HK0.out.trans hKc⟩

theorem AreaAlgebra_std (A : Option Addr) (na ca : Nat) (za : List (List Sp)) (B : Option Addr) (nb cb : Nat) (zb : List (List Sp)) (z : Int × Int) (w : World) (ra : AArg w A na ca za) (rb : AArg w B nb cb zb) (_rz : (Lit.int .i64 z.1).wf = true ∧ (Lit.int .u32 z.2).wf = true) (hT : Tab w) :
    Calls Tryd.prog 4 #[.slice A na ca, .slice B nb cb, .agg #[.int .i64 z.1, .int .u32 z.2]] w fun e w' => e = .returned (.bool true) ∧ Below w.heap.size w w' := by
  by_cases h : fewB za = true ∧ fewB zb = true
  · exact algebra_few ra rb h.1 h.2 hT
  · exact algebra_long ra rb h hT
end Go.Proofs.YtmdhbbibghpijaaDoor
