/- lattice.Close, Closed. -/
import Derived.Test.YtknjekakncjbgabDoorLatFn2
namespace Go.Proofs.YtknjekakncjbgabDoor
open Go.RowKit Go.Shelf
attribute [local go_sem] Oper.semAt_some

theorem Keep.others {a b : World} (h : Keep a b) : KeepsOthers a b := ⟨h.size, fun k o hk _ => by
  have hl := (Array.getElem?_eq_some_iff.1 hk).1
  exact (h.block k hl).trans hk⟩
theorem orAll_bd {ls : List Lb} (h : ls.length ≤ 16) (ps : List Nat) : orAll ls ps < 4294967296 := Nat.lt_of_lt_of_le (orAll_lt ls ps) (Nat.le_trans (pow_bd h) (by decide))
theorem dwn_bd {ls : List Lb} (h : ls.length ≤ 16) (i : Nat) : dwn ls i < 4294967296 := Nat.lt_of_lt_of_le (dwn_lt ls i) (Nat.le_trans (pow_bd h) (by decide))

set_option maxRecDepth 100000 in
set_option maxHeartbeats 2000000 in
theorem close_any (p : Nat) (ls : List Lb) (m : Nat) (w : World) (h : Lat w p ls) (hm : m < 4294967296) (hT : Tab w) :
    Calls Tryd.prog 19 #[.pointer (some ⟨p, 0, none⟩), .int .u32 m] w fun e w' => e = .returned (.int .u32 (clo ls m)) ∧ Keep w w' := by
  have h16 := h.len.2
  have HL := Lib.hid h
  clear h
  refine (callsIn_wide (n := 3)).1 ?_
  refine callsIn_of_wp_marks Tryd.func19 rfl trivial ?_ rfl
  simp only [Tryd.ntmps19, List.size_toArray, List.length_cons, List.length_nil, Nat.reduceAdd, Nat.reduceSub, Array.replicate_succ, Array.replicate_zero, List.push_toArray, List.append_toArray, List.nil_append, List.cons_append]
  gi_wp2_with (refine ⟨trivial, ?_⟩; gi_at_call 30; refine (bits_in _ _ _).mono ?_; rintro e w' ⟨rfl, rfl⟩)
  have bP := ((Boxed.new w 28 (.pointer (some ⟨p, 0, none⟩))).alloc (.cells #[.int .u32 0] 26)).alloc (.cells #[.int .u64 m] 60)
  have bC := (Boxed.new (w.alloc (.cells #[.pointer (some ⟨p, 0, none⟩)] 28)) 26 (.int .u32 0)).alloc (.cells #[.int .u64 m] 60)
  have bN := Boxed.new ((w.alloc (.cells #[.pointer (some ⟨p, 0, none⟩)] 28)).alloc (.cells #[.int .u32 0] 26)) 60 (.int .u64 m)
  simp only [World.size_alloc] at bC bN
  have hB0 : Below w.heap.size w (((w.alloc (.cells #[.pointer (some ⟨p, 0, none⟩)] 28)).alloc (.cells #[.int .u32 0] 26)).alloc (.cells #[.int .u64 m] 60)) := (((Keep.refl w).alloc _).alloc _).alloc _
  have hsz : (((w.alloc (.cells #[.pointer (some ⟨p, 0, none⟩)] 28)).alloc (.cells #[.int .u32 0] 26)).alloc (.cells #[.int .u64 m] 60)).heap.size = w.heap.size + 3 := by simp
  obtain ⟨W0, hW0⟩ : ∃ W0, ((w.alloc (.cells #[.pointer (some ⟨p, 0, none⟩)] 28)).alloc (.cells #[.int .u32 0] 26)).alloc (.cells #[.int .u64 m] 60) = W0 := ⟨_, rfl⟩
  rw [hW0] at bP bC bN hB0 hsz ⊢
  clear hW0
  have HSZ := Lib.hid hsz
  have hszl : w.heap.size + 3 ≤ W0.heap.size := by omega
  clear hsz
  have hpos := hT.pos
  refine wpIn_rangeFunc_ownG rfl (by omega) (gf := 33) (lb := #[.pointer (some ⟨w.heap.size + 1 + 1, 0, none⟩)]) rfl trivial (enters_of Tryd.func33 (by kernel_rfl) rfl)
    (bits_stops _ (by omega) (w.heap.size + 1 + 1) w.heap.size m (by omega) hpos W0 (by omega) (by omega) (hT.below hpos hB0) bN.cell) belowK_t (belowK_b (by omega)) (Below.refl _ _) (fun _ => rfl)
    (fun pre W => (Boxed W (w.heap.size + 1) 26 (.int .u32 (orAll ls pre : Nat)) ∧ Boxed W w.heap.size 28 (.pointer (some ⟨p, 0, none⟩))) ∧ Below w.heap.size w W)
    (fun _ _ _ => False)
    (OwnFrom.and (OwnFrom.and (Own.from (boxed_own _ _ _) _) (Own.from (boxed_own _ _ _) _)) (ownFrom_below (Nat.le_refl _) (by omega)))
    (fun _ => ownFrom_pure _ _)
    ⟨⟨bC, bP⟩, hB0⟩
    (fun x => { tmps := #[.pointer (some ⟨p, 0, none⟩), .int .u32 m, .pointer (some ⟨w.heap.size, 0, none⟩), undef, .int .u32 0, .pointer (some ⟨w.heap.size + 1, 0, none⟩), .int .i64 x, .int .u32 m, .int .u64 m, .func (.func 33) #[] #[.pointer (some ⟨w.heap.size + 1 + 1, 0, none⟩)], .int .i64 x, undef, undef, undef, undef, undef, undef], defers := [] }) ?assign ?body ?done ?stop
  case assign =>
    intro l x W K hK
    gi_wp2
    exact hK
  case body =>
    rintro l pre x W ⟨⟨bC1, bP1⟩, hB⟩ hlt
    have c1 := bC1.cell
    have c2 := bP1.cell
    have HLW := Lib.hid (HL.out.keep hB)
    have hor := u32_or _ _ (orAll_bd h16 pre) (dwn_bd h16 x)
    have HOS := Lib.hid (orAll_snoc ls pre x)
    gi_wp2_with fail
    gi_region_with (refine ⟨trivial, ?_⟩; gi_at_call 17; refine (callsIn_wide.2 (down_nat p ls x _ (HLW.out.keep (Keep.refl _).drew))).mono ?_; rintro e w1 ⟨rfl, hk1⟩; have bC2 : Boxed w1 (w.heap.size + 1) 26 (.int .u32 (orAll ls pre : Nat)) := (hk1.block _ bC1.lt).trans bC1; have c3 := bC2.cell; have f3 := bC2.frozen)
    all_goals gi_wp2
    all_goals
      have hkk : Keep W w1 := (Keep.refl W).drew.trans hk1
      have bP2 : Boxed w1 w.heap.size 28 (.pointer (some ⟨p, 0, none⟩)) := (hkk.block _ bP1.lt).trans bP1
      have hbb : Below w.heap.size W (w1.setCell ⟨w.heap.size + 1, 0, none⟩ (.int .u32 (orAll ls pre ||| dwn ls x : Nat))) := (Below.mono hkk hB.size).setCell (p := ⟨w.heap.size + 1, 0, none⟩) (by simp) _
      exact ⟨(hkk.others.trans (KeepsOthers.setCell _ _ _)).from _, hbb, ⟨by rw [HOS.out]; exact bC2.set _, bP2.other (by omega) _⟩, hB.trans hbb⟩
  case done =>
    rintro D ys W hD rfl ⟨⟨bC1, bP1⟩, hB⟩ hK
    have c1 := bC1.cell
    gi_wp2
    refine ⟨by simp, .inl ⟨_, _, rfl, run_takeDeferred hK, ?_⟩⟩
    exact ⟨_, results_tmp rfl _ _ _, rfl, hB.trans (belowK_b (w := w) (Nat.le_refl _) _ D _ _ (by omega) hK rfl rfl)⟩
  case stop =>
    rintro D c pre W hD hpre hF hK
    exact hF.elim

theorem closed_any (p : Nat) (ls : List Lb) (m : Nat) (w : World) (h : Lat w p ls) (hm : m < 4294967296) (hT : Tab w) :
    Calls Tryd.prog 20 #[.pointer (some ⟨p, 0, none⟩), .int .u32 m] w fun e w' => e = .returned (.bool (decide (clo ls m = m))) ∧ Keep w w' := by
  have e0 : ((clo ls m : Int) == (m : Int)) = decide (clo ls m = m) := by rw [Bool.eq_iff_iff]; simp; omega
  have HE := Lib.hid e0
  clear e0
  go_enter Tryd.func20, Tryd.ntmps20
  go_wp2_with (go_at_call 19; refine (close_any p ls m _ h hm hT).mono ?_; rintro e w1 ⟨rfl, hk1⟩)
  go_ret
  exact ⟨by rw [← HE.out]; rfl, hk1⟩
end Go.Proofs.YtknjekakncjbgabDoor
