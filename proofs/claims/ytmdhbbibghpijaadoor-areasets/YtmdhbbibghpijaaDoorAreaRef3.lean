/- The document's own Of of layer 7. -/
import Derived.Test.YtmdhbbibghpijaaDoorAreaRef2
namespace Go.Proofs.YtmdhbbibghpijaaDoor
open Go.RowKit

theorem rheld_any (n lo hi : Int) (w : World) :
    Calls Tryd.prog 39 #[.int .i64 n, .int .i64 lo, .int .i64 hi] w fun e w' => e = .returned (.int .i64 (max (min n hi) lo)) ∧ w = w' := by
  go_enter Tryd.func39, Tryd.ntmps39
  go_wp2
  all_goals
    go_ret
    exact ⟨ret_int (by omega), rfl⟩
/-- What is left when a number is halved so often. -/
def halfI (m j : Nat) : Int := ((m / 2 ^ j : Nat) : Int)
theorem halfI_next (m j : Nat) : halfI m j / 2 = halfI m (j + 1) := by
  unfold halfI
  rw [Nat.pow_succ, ← Nat.div_div_eq_div_mul]
  omega
theorem halfI_bd {m : Nat} (j : Nat) (hm : m < 4294967296) : 0 ≤ halfI m j ∧ halfI m j ≤ 4294967295 := by
  have := Nat.div_le_self m (2 ^ j)
  unfold halfI
  generalize m / 2 ^ j = d at *
  omega
def bitM (m i : Nat) : Int := halfI m i % 2
theorem rbit_any (m i : Nat) (w : World) (hm : m < 4294967296) (hi : i ≤ 64) :
    Calls Tryd.prog 65 #[.int .u64 m, .int .i64 i] w fun e w' => e = .returned (.int .u64 (bitM m i)) ∧ w = w' := by
  have e0 : (m : Int) = halfI m 0 := by unfold halfI; simp
  rw [e0]
  have HB := Lib.hid (fun j => halfI_bd j hm)
  have HN := Lib.hid (halfI_next m)
  clear hm e0
  go_enter Tryd.func65, Tryd.ntmps65
  go_wp2
  go_loop [0, 5] (fun t k => ∃ j : Nat, j ≤ i ∧ k = .int .i64 j ∧ t = .int .u64 (halfI m j)) (fun _ k => i - (intOf k).toNat)
  case atStart => exact ⟨0, by omega, rfl, rfl⟩
  case round =>
    obtain ⟨j, hj, rfl, rfl⟩ := hrel
    obtain ⟨d0, d1⟩ := HB.out j
    have HD := Lib.hid (HN.out j)
    by_cases hlt : j < i
    · generalize halfI m j = d at *
      go_wp2
      go_round
      case rel => exact ⟨j + 1, by omega, by go_num, by rw [← HD.out]⟩
      case measure => simp [intOf]; omega
    · obtain rfl : j = i := by omega
      have HB2 := Lib.hid (show bitM m j = halfI m j % 2 from rfl)
      generalize halfI m j = d at *
      go_wp2
      go_ret
      exact ⟨ret_int HB2.out.symm, rfl⟩
theorem rhasm_any (m i : Nat) (v : Bool) (w : World) (hm : m < 4294967296) (hi : i ≤ 64) (hv : m.testBit i = v) :
    Calls Tryd.prog 40 #[.int .u32 m, .int .i64 i] w fun e w' => e = .returned (.bool v) ∧ Keep w w' := by
  rw [Nat.testBit_eq_decide_div_mod_eq] at hv
  have HC := Lib.hid (rbit_any m i w hm hi)
  obtain ⟨d, hd⟩ : ∃ d, d = m / 2 ^ i % 2 := ⟨_, rfl⟩
  rw [← hd] at hv
  have hdi : bitM m i = (d : Int) := by rw [hd]; unfold bitM halfI; omega
  rw [hdi] at HC
  have hm0 : (0 : Int) ≤ (m : Int) := by omega
  have hm1 : (m : Int) ≤ 4294967295 := by omega
  cases v
  · have hd0 : d = 0 := by
      have := of_decide_eq_false hv
      omega
    subst hd0
    clear hv hd hdi hm
    go_enter Tryd.func40, Tryd.ntmps40
    go_wp2_with (go_at_call 65; refine HC.out.mono ?_; rintro e w' ⟨rfl, rfl⟩)
    go_ret
    exact ⟨rfl, Keep.refl _⟩
  · have hd1 : d = 1 := of_decide_eq_true hv
    subst hd1
    clear hv hd hdi hm
    go_enter Tryd.func40, Tryd.ntmps40
    go_wp2_with (go_at_call 65; refine HC.out.mono ?_; rintro e w' ⟨rfl, rfl⟩)
    go_ret
    exact ⟨rfl, Keep.refl _⟩
theorem make_ownr {w : World} {A : Option Addr} {na ca : Nat} {za : List Sp} (ha : Arg w A na ca za) (hn : na ≤ 20000) :
    Calls Tryd.prog 18 #[.slice A na ca] w fun e w' => ∃ A n c zs, e = .returned (.slice A n c) ∧ Own w' w.heap.size A n c zs ∧ IsSet zs (mem za) ∧ n ≤ 1 + 2 * na ∧ Keep w w' := by
  have HC := Lib.hid (build_any 0 ha (arg_nil w) hn (by decide) (.inl rfl))
  have HOK := Lib.hid ha.ok
  clear ha
  go_enter Tryd.func18, Tryd.ntmps18
  go_wp2_with fail
  go_at_call 30
  refine HC.out.mono ?_
  rintro e w' ⟨A', n', c', zs, rfl, ho, hs, hle, hk⟩
  have HE := Lib.hid (And.intro ho (And.intro (show IsSet zs (mem za) from hs.congr (fun k => (ask0 HOK.out (by simp) k).trans ⟨fun h => h.elim id (fun h => absurd h (mem_nil k)), .inl⟩)) (And.intro hle hk)))
  clear hk ho hs hle
  go_wp2
  go_ret
  exact ⟨A', n', c', zs, rfl, HE.out.1, HE.out.2.1, by have := HE.out.2.2.1; omega, HE.out.2.2.2⟩

set_option maxRecDepth 100000 in
set_option maxHeartbeats 4000000 in
theorem rof_any {w : World} {A : Option Addr} {l c : Nat} {h : Int → Bool} (n : Int) (m K : Nat) (hA : Bg w A l c h) (hl : l ≤ 20000) (hm : m < 4294967296) (hK : (K : Int) = max (min n 16) 0) :
    Calls Tryd.prog 17 #[.int .i64 n, .int .u32 m, .slice A l c] w (OutA w K (1 + 2 * l) (fun i k => decide (i < K) && m.testBit i && h k)) := by
  obtain ⟨i0, hi, hz0, hz1, hz2⟩ := info_parts infoSps
  obtain ⟨F, hF⟩ : ∃ F : Nat → Int → Bool, F = fun i k => decide (i < K) && m.testBit i && h k := ⟨_, rfl⟩
  rw [← hF]
  have hK16 : K ≤ 16 := by omega
  have HA := Lib.hid hA
  have HK := Lib.hid hK
  have HF := Lib.hid hF
  have h0 : RbI w (1 + 2 * l) F 0 (some ⟨w.heap.size, 0, none⟩) 0 (w.alloc (.cells #[] 32)) :=
    ⟨[], rfl, World.ownsRow_made (base := w.heap.size) (e := 32) (size := 1) w #[] 0 (Nat.le_refl _) (Nat.zero_le _) rfl, (Keep.refl w).alloc _, fun i r h => by simp at h⟩
  have H0 := Lib.hid h0
  have HHELD := Lib.hid (fun X => rheld_any n 0 16 X)
  have HM := Lib.hid hm
  rw [← hK] at HHELD
  clear hA h0 hK hF
  go_enter Tryd.func17, Tryd.ntmps17
  go_wp2_with fail
  generalize w.alloc (.cells #[] 32) = W0 at *
  go_loopw [7, 8] (fun ov i wr => ∃ (j : Nat) (A' : Option Addr) (c' : Nat), i = .int .i64 j ∧ ov = .slice A' j c' ∧ j ≤ K ∧ Hid (RbI w (1 + 2 * l) F j A' c' wr)) (fun _ i _ => K - (intOf i).toNat)
  case atStart => exact ⟨0, _, _, rfl, rfl, Nat.zero_le _, H0⟩
  case round =>
    obtain ⟨j, A1, c1, rfl, rfl, hj, HI⟩ := hrel
    clear H0
    by_cases hlt : j < K
    · obtain ⟨rs, q0, q1, q2, q3⟩ := HI.out
      clear HI
      have HR := Lib.hid (And.intro q0 (And.intro q1 (And.intro q2 q3)))
      have HML := Lib.hid (show j + 1 ≤ maxLen by unfold maxLen; omega)
      have hji : (j : Int) < (K : Int) := by omega
      clear q0 q1 q2 q3
      go_wp2_with fail
      go_at_call 39
      refine (HHELD.out _).mono ?_
      rintro e wh ⟨rfl, rfl⟩
      have HOE := Lib.hid (World.ownsRow_made (base := w.heap.size) (e := 37) (size := 2) wr #[] 0 HR.out.2.2.1.size (Nat.zero_le _) rfl)
      have HKE := Lib.hid (show Keep wr (wr.alloc (.cells #[] 37)) from (Keep.refl _).alloc _)
      go_wp2_with fail
      go_at_call 40
      cases hb : m.testBit j
      · refine (rhasm_any m j false _ HM.out (by omega) hb).mono ?_
        rintro e w2 ⟨rfl, hk2⟩
        have hst : StS w.heap.size w2 (some ⟨wr.heap.size, 0, none⟩, 0, 0) (1 + 2 * l) (F j) := by
          have h1 : StS w.heap.size (wr.alloc (.cells #[] 37)) (some ⟨wr.heap.size, 0, none⟩, 0, 0) (1 + 2 * l) (F j) := sts_of_own (zs := []) HOE.out ⟨Rt.nil, fun k => ⟨fun h => absurd h (mem_nil k), fun h => by simp [HF.out, hb] at h⟩, by simp⟩ (Nat.zero_le _)
          exact h1.keep hk2
        have HST := Lib.hid (hst.keep ((Keep.refl w2).alloc (.cells #[.slice (some ⟨wr.heap.size, 0, none⟩) 0 0] 32)))
        have HK2 := Lib.hid ((HKE.out.trans hk2).alloc (.cells #[.slice (some ⟨wr.heap.size, 0, none⟩) 0 0] 32))
        have HOW := Lib.hid (ownsRow_only HR.out.2.1 (Only.of_keep (fun _ => False) HK2.out) (fun _ _ h => h))
        have HSZ := Lib.hid (HR.out.2.2.1.size)
        clear hk2 hst hb
        go_wp2_with (at_builtin; go_must (refine wpList_append_from rfl _ _ 22 rfl w.heap.size 32 i0 (.slice none 0 0) 24 Tryd.underlying22 hi hz0 hz1 hz2 rfl _ j (rs.map SV.v) rfl HOW.out _ (some ⟨w2.heap.size, 0, none⟩) 1 1 [.slice (some ⟨wr.heap.size, 0, none⟩) 0 0] rfl (one_row w2 _) (fun h => by cases h) (fun u hu => by simp at hu; subst hu; rfl) HML.out (by omega) (by have h1 := HK2.out.size; have h2 := HSZ.out; omega) ?_); intro A4 c4 w4 hown4 hgrow4 hat4; have HI4 := Lib.hid (rbI_next (r := (some ⟨wr.heap.size, 0, none⟩, 0, 0)) HR.out.1 HR.out.2.1 HR.out.2.2.1 HR.out.2.2.2 HK2.out HST.out hgrow4 hown4); clear hown4 hgrow4 hat4)
        go_roundw
        case rel => exact ⟨j + 1, _, _, by go_num, rfl, hlt, HI4⟩
        case measure => simp [intOf]; omega
      · refine (rhasm_any m j true _ HM.out (by omega) hb).mono ?_
        rintro e w2 ⟨rfl, hk2⟩
        obtain ⟨za, hza, hfa⟩ := HA.out
        have HZ := Lib.hid (make_ownr (hza.keep ((HR.out.2.2.1.trans HKE.out).trans hk2)) hl)
        have HQ := Lib.hid hfa
        have HK1 := Lib.hid (HKE.out.trans hk2)
        have HB := Lib.hid hb
        clear hk2 hza hfa hb
        go_wp2_with fail
        go_at_call 18
        refine HZ.out.mono ?_
        rintro e w3 ⟨A3, n3, c3, zs, rfl, ho3, hs3, hle3, hk3⟩
        have hst : StS w.heap.size w3 (A3, n3, c3) (1 + 2 * l) (F j) := by
          have h1 : StS w2.heap.size w3 (A3, n3, c3) (1 + 2 * l) (F j) := sts_of_own ho3 (hs3.congr (fun k => by
            rw [← hasB_iff, HQ.out k]
            simp [HF.out, HB.out, hlt])) hle3
          exact h1.mono (HR.out.2.2.1.trans HK1.out).size
        have HST := Lib.hid (hst.keep ((Keep.refl w3).alloc (.cells #[.slice A3 n3 c3] 32)))
        have HK2 := Lib.hid ((HK1.out.trans hk3).alloc (.cells #[.slice A3 n3 c3] 32))
        have HOW := Lib.hid (ownsRow_only HR.out.2.1 (Only.of_keep (fun _ => False) HK2.out) (fun _ _ h => h))
        have HSZ := Lib.hid (HR.out.2.2.1.size)
        clear hk3 hst ho3 hs3 HZ
        go_wp2_with (at_builtin; go_must (refine wpList_append_from rfl _ _ 22 rfl w.heap.size 32 i0 (.slice none 0 0) 24 Tryd.underlying22 hi hz0 hz1 hz2 rfl _ j (rs.map SV.v) rfl HOW.out _ (some ⟨w3.heap.size, 0, none⟩) 1 1 [.slice A3 n3 c3] rfl (one_row w3 _) (fun h => by cases h) (fun u hu => by simp at hu; subst hu; rfl) HML.out (by omega) (by have h1 := HK2.out.size; have h2 := HSZ.out; omega) ?_); intro A4 c4 w4 hown4 hgrow4 hat4; have HI4 := Lib.hid (rbI_next (r := (A3, n3, c3)) HR.out.1 HR.out.2.1 HR.out.2.2.1 HR.out.2.2.2 HK2.out HST.out hgrow4 hown4); clear hown4 hgrow4 hat4)
        go_roundw
        case rel => exact ⟨j + 1, _, _, by go_num, rfl, hlt, HI4⟩
        case measure => simp [intOf]; omega
    · obtain rfl : j = K := by omega
      have hja : ¬ (j : Int) < (j : Int) := by omega
      have HE := Lib.hid (show OutA w j (1 + 2 * l) F (.returned (.slice A1 j c1)) _ by
        obtain ⟨rs, q0, q1, q2, q3⟩ := HI.out
        subst q0
        obtain ⟨A5, c5, e5, h5⟩ := areaS_of_row (base := w.heap.size) (N := 1 + 2 * l) (f := F) q1 (fun i hi k => by rw [HF.out]; simp; omega) q3
        cases e5
        exact ⟨A1, c1, rfl, q2, h5, (own_cap1 q1)⟩)
      clear HI hlt
      go_wp2_with fail
      go_at_call 39
      refine (HHELD.out _).mono ?_
      rintro e wh ⟨rfl, rfl⟩
      go_wp2_with fail
      go_ret
      exact HE.out
end Go.Proofs.YtmdhbbibghpijaaDoor
