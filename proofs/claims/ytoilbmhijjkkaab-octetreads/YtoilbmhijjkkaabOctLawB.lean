/- The walk of OctetRests. -/
import Derived.Test.YtoilbmhijjkkaabOctAlive
import Derived.Test.YtoilbmhijjkkaabOctMath
import Derived.Test.YtoilbmhijjkkaabArr2
import Derived.OpenShut
import Derived.Deep.DeepMust
namespace Go.Proofs.Ytoilbmhijjkkaab
open Go.RowKit

theorem same_yes (A : Option Addr) (n c : Nat) (A2 : Option Addr) (n2 c2 : Nat) (xs : List Int) (w : World) (B B2 : Nat) (hl : Lies w B A n (vals .u8 xs)) (hl2 : Lies w B2 A2 n2 (vals .u8 xs)) :
    Calls Try.prog 16 #[.slice A n c, .slice A2 n2 c2] w fun e w' => e = .returned (.bool true) ∧ w = w' := by
  have c1 := conv_any A n c xs w B hl
  have c2 := conv_any A2 n2 c2 xs w B2 hl2
  clear hl hl2
  go_enter Try.func16, Try.ntmps16
  go_wp2
  go_ret
  exact ⟨rfl, rfl⟩

/-- A row of bytes of the call's own, behind the reader. -/
theorem row_rd {w w' : World} {b : Nat} {v : Value} {n : Nat} {xs : List Value} (h : w.ownsRow (b + 1) 5 1 v n xs) (ho : Only (fun k => k = b) w w') : w'.ownsRow (b + 1) 5 1 v n xs :=
  ownsRow_only h ho (fun g hg e => by have := (h.lt g hg).1; omega)
theorem row_keep {w w' : World} {base : Nat} {v : Value} {n : Nat} {xs : List Value} (h : w.ownsRow base 5 1 v n xs) (hk : Keep w w') : w'.ownsRow base 5 1 v n xs :=
  ownsRow_only h (Only.of_keep (fun _ => False) hk) (fun _ _ h => h)

set_option maxRecDepth 100000 in
set_option maxHeartbeats 2000000 in
theorem rests_core (A : Option Addr) (n c : Nat) (xs : List Int) (A2 : Option Addr) (m c2 : Nat) (zs : List Int) (w : World) (hl : Lies w w.heap.size A n (vals .u8 xs)) (hl2 : Lies w w.heap.size A2 m (vals .i64 zs))
    (hn : n ≤ 200) (hm : m ≤ 60) :
    Calls Try.prog 7 #[.slice A n c, .slice A2 m c2] w fun e w' => e = .returned (.bool true) ∧ Keep w w' := by
  obtain ⟨i0, hi, hz0, hz1, hz2⟩ := info_parts infoU8
  have hxl : xs.length = n := by have := hl.1; rwa [vals_length] at this
  have hzl : zs.length = m := by have := hl2.1; rwa [vals_length] at this
  subst hxl
  subst hzl
  have hd1 : decide (200 < (xs.length : Int)) = false := by simp; omega
  have hd2 : decide (60 < (zs.length : Int)) = false := by simp; omega
  go_enter Try.func7, Try.ntmps7
  go_wp2_with (first
    | (go_at_call 9; refine (alive_any _).mono ?_; rintro e w0 ⟨rfl, hk0⟩)
    | (go_at_call 19; refine (open_any A _ c xs _ w.heap.size (by omega) hk0.size (hl.keep hk0 (Nat.le_refl _))).mono ?_; rintro e w1 ⟨b, rfl, hb, hr1, hk01⟩))
  have hk1 := hk0.trans hk01
  have hbl := hr1.lt
  have hbw : w.heap.size ≤ b := Nat.le_trans hk0.size hb
  clear hk0 hk01
  go_loopw [6, 26] (fun v i wr => ∃ (j p : Nat), j ≤ zs.length ∧ p ≤ xs.length ∧ i = .int .i64 j ∧ wr.ownsRow (b + 1) 5 1 v p (vals .u8 (xs.take p)) ∧ Rd wr b false (xs.drop p) ∧ Keep w wr) (fun _ i _ => zs.length - (intOf i).toNat)
  case atStart => exact ⟨0, 0, Nat.zero_le _, Nat.zero_le _, rfl, World.ownsRow_made _ #[] 0 (by omega) (by simp) rfl, hr1.keep ((Keep.refl _).alloc _), hk1.alloc _⟩
  case round =>
    obtain ⟨j, p, hj, hp, rfl, hrow, hrd, hkr⟩ := hrel
    obtain ⟨Av, cv, rfl, hlv⟩ := Lies.of_row hrow
    by_cases hlt : j < zs.length
    · obtain ⟨g2, off2, rfl, hg2, hc2⟩ := hl2.2 (by omega)
      have hcell : wr.cell? ⟨g2, off2 + j, none⟩ = some (.int .i64 (zs.getD j 0)) := by
        rw [(hkr.cell (p := ⟨g2, off2 + j, none⟩) hg2), hc2 j hlt, vals_getD _ _ _ hlt]
      have hdl : (xs.drop p).length = xs.length - p := by simp
      generalize zs.getD j 0 = z at *
      have HLV := Lib.hid hlv
      clear hlv hc2 hg2
      by_cases hz : ((xs.length - p : Nat) : Int) < z
      · go_wp2_with fail
        refine (left_any b _ _ wr hrd).mono ?_
        rintro e w' ⟨rfl, rfl⟩
        rw [hdl]
        go_wp2_with fail
        refine (rraw_bad z b _ false wr hrd (.inr (by rw [hdl]; omega))).mono ?_
        rintro e w2 ⟨v2, rfl, hrow2, hr2, ho2⟩
        obtain ⟨A2', c2', hv2, -⟩ := Lies.of_row hrow2
        rw [hv2]
        have hk2 := rd_keep hkr hbw ho2
        clear hrow2 hv2 hrow HLV ho2 hkr hrd
        go_wp2_with fail
        refine (bad_any b _ _ w2 hr2).mono ?_
        rintro e w' ⟨rfl, rfl⟩
        go_wp2_with fail
        refine (left_any b _ _ w2 hr2).mono ?_
        rintro e w' ⟨rfl, rfl⟩
        rw [hdl]
        go_wp2_with fail
        refine (rraw_bad 0 b _ true w2 hr2 (.inl rfl)).mono ?_
        rintro e w3 ⟨v3, rfl, hrow3, hr3, ho3⟩
        obtain ⟨A3', c3', hv3, -⟩ := Lies.of_row hrow3
        rw [hv3]
        have hk3 := rd_keep hk2 hbw ho3
        clear hrow3 hv3 ho3 hk2 hr2
        go_wp2_with fail
        refine (get_bad 1 b _ true w3 hr3 (.inl rfl)).mono ?_
        rintro e w4 ⟨rfl, hr4, ho4⟩
        have hk4 := rd_keep hk3 hbw ho4
        clear ho4 hk3 hr3
        go_wp2_with fail
        refine (rest_bad b _ w4 hr4).mono ?_
        rintro e w5 ⟨v5, rfl, hrow5, hr5, ho5⟩
        obtain ⟨A5', c5', hv5, -⟩ := Lies.of_row hrow5
        rw [hv5]
        have hk5 := rd_keep hk4 hbw ho5
        clear hrow5 hv5 ho5 hk4 hr4 hr5
        go_wp2
        go_ret
        exact ⟨rfl, hk5⟩
      · rcases Int.lt_or_le z 0 with hneg | hpos
        · have hmx : max z 0 = ((0 : Nat) : Int) := by omega
          have hle : decide (((xs.length - p : Nat) : Int) < z) = false := by simp; omega
          clear hz hneg
          go_wp2_with fail
          refine (left_any b _ _ wr hrd).mono ?_
          rintro e w' ⟨rfl, rfl⟩
          rw [hdl]
          go_wp2_with fail
          refine (rraw_ok _ 0 b _ wr hrd (by rw [hdl]; omega) hmx (by rw [hdl]; omega)).mono ?_
          rintro e w2 ⟨v2, rfl, hrow2, hr2, ho2⟩
          have htl : ((xs.drop p).take 0).length = 0 := by simp; try omega
          have hdd : ((xs.drop p).drop 0) = xs.drop (p + 0) := by rw [List.drop_drop]
          have hdl2 : (xs.drop (p + 0)).length = xs.length - p - 0 := by simp; try omega
          rw [htl] at hrow2
          rw [hdd] at hr2
          obtain ⟨A2', c2', hv2, hl2'⟩ := Lies.of_row hrow2
          rw [hv2]
          have hnn : A2' = none → c2' = 0 := by
            intro h
            subst h
            rcases hrow2.2 with ⟨e, _⟩ | ⟨g, cap, cur, e, _⟩
            · rw [hv2] at e; injection e
            · rw [hv2] at e; injection e with e1; cases e1
          have hrow' := row_rd hrow ho2
          have hk2 := rd_keep hkr hbw ho2
          have hbl2 := hr2.lt
          have HX := Lib.hid (show vals .u8 (xs.take p) ++ vals .u8 ((xs.drop p).take 0) = vals .u8 (xs.take (p + 0)) by rw [← vals_append, ← List.take_add])
          clear hrow2 hv2 hrow HLV ho2 hkr hrd htl hdd hdl
          go_wp2_with (first
            | (go_at_call 28; refine (bad_any b _ _ w2 hr2).mono ?_; rintro e w' ⟨rfl, rfl⟩)
            | (go_at_call 27; refine (left_any b _ _ w2 hr2).mono ?_; rintro e w' ⟨rfl, rfl⟩; rw [hdl2])
            | (at_builtin; refine wpList_append_from rfl _ _ 25 rfl (b + 1) 5 i0 (.int .u8 0) 1 Try.underlying25 hi hz0 hz1 hz2 rfl _ p (vals .u8 (xs.take p)) rfl hrow' w2.heap.size A2' 0 c2' (vals .u8 ((xs.drop p).take 0)) rfl hl2' hnn (vals_one _ _) (by unfold maxLen; omega) (by omega) (by omega) ?_; intro A3 c3 w3 hown3 hgrow hat))
          all_goals go_ways
          have hown4 := hown3
          rw [HX.out] at hown4
          have hgr : ∀ k, (Value.slice Av p cv).ownBlock = some k → b + 1 ≤ k := fun k e => (hrow'.lt k e).1
          have ho3 : Only (fun k => b + 1 ≤ k) w2 w3 := (Only.refl _ _).grown hgrow (fun k _ e => hgr k e)
          have hk3 : Keep w w3 := Only.keep hk2 ho3 (fun k h => by omega)
          have hr3 := hr2.only ho3 (fun k h1 h2 => by omega)
          refine ⟨⟨j + 1, p + 0, by omega, by omega, by simp, hown4, hr3, hk3⟩, ?_⟩
          simp [intOf]; omega
        · obtain ⟨K, rfl⟩ := Int.eq_ofNat_of_zero_le hpos
          have hmx : max (K : Int) 0 = (K : Int) := by omega
          have hle : decide (((xs.length - p : Nat) : Int) < (K : Int)) = false := by simp; omega
          clear hpos
          have hKl : K ≤ xs.length - p := by omega
          clear hz
          go_wp2_with fail
          refine (left_any b _ _ wr hrd).mono ?_
          rintro e w' ⟨rfl, rfl⟩
          rw [hdl]
          go_wp2_with fail
          refine (rraw_ok _ K b _ wr hrd (by rw [hdl]; omega) hmx (by rw [hdl]; omega)).mono ?_
          rintro e w2 ⟨v2, rfl, hrow2, hr2, ho2⟩
          have htl : ((xs.drop p).take K).length = K := by simp; try omega
          have hdd : ((xs.drop p).drop K) = xs.drop (p + K) := by rw [List.drop_drop]
          have hdl2 : (xs.drop (p + K)).length = xs.length - p - K := by simp; try omega
          rw [htl] at hrow2
          rw [hdd] at hr2
          obtain ⟨A2', c2', hv2, hl2'⟩ := Lies.of_row hrow2
          rw [hv2]
          have hnn : A2' = none → c2' = 0 := by
            intro h
            subst h
            rcases hrow2.2 with ⟨e, _⟩ | ⟨g, cap, cur, e, _⟩
            · rw [hv2] at e; injection e
            · rw [hv2] at e; injection e with e1; cases e1
          have hrow' := row_rd hrow ho2
          have hk2 := rd_keep hkr hbw ho2
          have hbl2 := hr2.lt
          have HX := Lib.hid (show vals .u8 (xs.take p) ++ vals .u8 ((xs.drop p).take K) = vals .u8 (xs.take (p + K)) by rw [← vals_append, ← List.take_add])
          clear hrow2 hv2 hrow HLV ho2 hkr hrd htl hdd hdl
          go_wp2_with (first
            | (go_at_call 28; refine (bad_any b _ _ w2 hr2).mono ?_; rintro e w' ⟨rfl, rfl⟩)
            | (go_at_call 27; refine (left_any b _ _ w2 hr2).mono ?_; rintro e w' ⟨rfl, rfl⟩; rw [hdl2])
            | (at_builtin; refine wpList_append_from rfl _ _ 25 rfl (b + 1) 5 i0 (.int .u8 0) 1 Try.underlying25 hi hz0 hz1 hz2 rfl _ p (vals .u8 (xs.take p)) rfl hrow' w2.heap.size A2' K c2' (vals .u8 ((xs.drop p).take K)) rfl hl2' hnn (vals_one _ _) (by unfold maxLen; omega) (by omega) (by omega) ?_; intro A3 c3 w3 hown3 hgrow hat))
          all_goals go_ways
          have hown4 := hown3
          rw [HX.out] at hown4
          have hgr : ∀ k, (Value.slice Av p cv).ownBlock = some k → b + 1 ≤ k := fun k e => (hrow'.lt k e).1
          have ho3 : Only (fun k => b + 1 ≤ k) w2 w3 := (Only.refl _ _).grown hgrow (fun k _ e => hgr k e)
          have hk3 : Keep w w3 := Only.keep hk2 ho3 (fun k h => by omega)
          have hr3 := hr2.only ho3 (fun k h1 h2 => by omega)
          refine ⟨⟨j + 1, p + K, by omega, by omega, by simp, hown4, hr3, hk3⟩, ?_⟩
          simp [intOf]; omega
    · obtain rfl : j = zs.length := by omega
      have hdl : (xs.drop p).length = xs.length - p := by simp
      go_wp2_with fail
      refine (rest_ok b _ wr hrd (by rw [hdl]; omega)).mono ?_
      rintro e w2 ⟨v2, rfl, hrow2, hr2, ho2⟩
      rw [hdl] at hrow2
      obtain ⟨A2', c2', hv2, hl2'⟩ := Lies.of_row hrow2
      rw [hv2]
      have hrow' := row_rd hrow ho2
      have hk2 := rd_keep hkr hbw ho2
      have hnn : A2' = none → c2' = 0 := by
        intro h
        subst h
        rcases hrow2.2 with ⟨e, _⟩ | ⟨g, cap, cur, e, _⟩
        · rw [hv2] at e; injection e
        · rw [hv2] at e; injection e with e1; cases e1
      have hs2 := ho2.size
      have hbl2 := hr2.lt
      clear hdl hv2 hrow hlv hrow2
      go_wp2_with (at_builtin; refine wpList_append_from rfl _ _ 25 rfl (b + 1) 5 i0 (.int .u8 0) 1 Try.underlying25 hi hz0 hz1 hz2 rfl _ p (vals .u8 (xs.take p)) rfl hrow' w2.heap.size A2' (xs.length - p) c2' (vals .u8 (xs.drop p)) rfl hl2' hnn (vals_one _ _) (by unfold maxLen; omega) (by omega) (by omega) ?_; intro A3 c3 w3 hown3 hgrow hat)
      have hall : vals .u8 (xs.take p) ++ vals .u8 (xs.drop p) = vals .u8 xs := by rw [← vals_append, List.take_append_drop]
      rw [hall, show p + (xs.length - p) = xs.length from by omega] at hown3
      have hgr : ∀ k, (Value.slice Av p cv).ownBlock = some k → b + 1 ≤ k := fun k e => (hrow'.lt k e).1
      have ho3 : Only (fun k => b + 1 ≤ k) w2 w3 := (Only.refl _ _).grown hgrow (fun k _ e => hgr k e)
      have hk3 : Keep w w3 := Only.keep hk2 ho3 (fun k h => by omega)
      have hr3 := hr2.only ho3 (fun k h1 h2 => by omega)
      obtain ⟨A4, c4, e4, hl4⟩ := Lies.of_row hown3
      injection e4 with e41 e42 e43
      subst e41 e43
      refine (same_yes _ _ _ _ _ _ xs w3 _ _ hl4 (hl.keep hk3 (Nat.le_refl _))).mono ?_
      rintro e w' ⟨rfl, rfl⟩
      go_wp2_with (go_at_call 27; refine (left_any b _ _ _ hr3).mono ?_; rintro e w' ⟨rfl, rfl⟩)
      go_ret
      exact ⟨rfl, hk3⟩
theorem rests_long (A : Option Addr) (n c : Nat) (A2 : Option Addr) (m c2 : Nat) (w : World) (h : decide (200 < (n : Int)) = true ∨ (decide (200 < (n : Int)) = false ∧ decide (60 < (m : Int)) = true)) :
    Calls Try.prog 7 #[.slice A n c, .slice A2 m c2] w fun e w' => e = .returned (.bool true) ∧ Keep w w' := by
  rcases h with h | ⟨h, h2⟩
  all_goals
    go_enter Try.func7, Try.ntmps7
    go_wp2_with (go_at_call 9; refine (alive_any _).mono ?_; rintro e w0 ⟨rfl, hk0⟩)
    go_ret
    exact ⟨rfl, hk0⟩

theorem OctetRests_std (a0 : Option Addr) (l0 c0 : Nat) (z0 : List Int) (a1 : Option Addr) (l1 c1 : Nat) (z1 : List Int) (w : World) (h0 : Arr .u8 w a0 l0 z0) (h1 : Arr .i64 w a1 l1 z1) :
    Calls Try.prog 7 #[.slice a0 l0 c0, .slice a1 l1 c1] w fun e w' => e = .returned (.bool true) ∧ Below w.heap.size w w' := by
  by_cases hn : l0 ≤ 200
  · by_cases hm : l1 ≤ 60
    · exact rests_core a0 l0 c0 z0 a1 l1 c1 z1 w h0.2.1 h1.2.1 hn hm
    · exact rests_long a0 l0 c0 a1 l1 c1 w (.inr ⟨by simp; omega, by simp; omega⟩)
  · exact rests_long a0 l0 c0 a1 l1 c1 w (.inl (by simp; omega))
end Go.Proofs.Ytoilbmhijjkkaab
