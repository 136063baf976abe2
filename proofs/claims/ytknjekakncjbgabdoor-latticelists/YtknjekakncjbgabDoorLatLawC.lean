/- LatticeNumbers: each label is told by its number, and back. -/
import Derived.Test.YtknjekakncjbgabDoorLatLawB
namespace Go.Proofs.YtknjekakncjbgabDoor
open Go.RowKit

theorem eql_self_lb (l : Lb) (w : World) : (Op.equalIn 10000 25 (.agg #[.int .u8 l.lv, .int .u16 l.ct]) (.agg #[.int .u8 l.lv, .int .u16 l.ct])).run Tryd.prog w = .ok true w := by
  have h := equalIn_lb l.lv l.ct l.lv l.ct w
  rwa [eq4_self] at h

set_option maxRecDepth 100000 in
set_option maxHeartbeats 4000000 in
theorem numbers_law (a : Option Addr) (len cap : Nat) (ls : List Lb) (w : World) (row : LbArg w a len ls) (hT : Tab w) :
    Calls Tryd.prog 5 #[.slice a len cap] w fun e w' => e = .returned (.bool true) ∧ Keep w w' := by
  obtain ⟨hml, hP, hok⟩ := row
  unfold maxLen at hml
  have HT := Lib.hid hT
  have HP := Lib.hid hP
  have HOK := Lib.hid hok
  have hll := hP.len
  clear hT hP hok
  by_cases h16 : 16 < len
  · go_enter Tryd.func5, Tryd.ntmps5
    go_wp2_with (go_at_call 8; refine (alive_any _ HT.out).mono ?_; rintro e w1 ⟨rfl, hk1⟩)
    go_ret
    exact ⟨rfl, hk1⟩
  · by_cases hE : newE ls = 0
    · have hl16 : ls.length ≤ 64 := by omega
      have hn16 : ls.length ≤ 16 := by omega
      obtain ⟨n, hn⟩ : ∃ n, n = len := ⟨_, rfl⟩
      subst hn
      have hnn : (n : Int) ≤ 16 := by omega
      have HN := Lib.hid hll
      have hgt : (ls.length : Int) ≤ (n : Int) := by omega
      have HG := Lib.hid hgt
      clear hll hgt
      go_enter Tryd.func5, Tryd.ntmps5
      go_wp2_with (first
        | (go_at_call 8; refine (alive_any _ HT.out).mono ?_; rintro e w1 ⟨rfl, hk1⟩)
        | (go_at_call 9; refine (new_yes _ _ _ ls _ (HP.out.up hk1) HOK.out (by omega) hE).mono ?_; rintro e w2 ⟨p, rfl, hk2, -, hL⟩))
      have HL := Lib.hid hL
      have hK := hk1.trans hk2
      clear hL hk1 hk2
      go_loopw [28] (fun i wr => ∃ (j : Nat), j ≤ n ∧ i = .int .i64 j ∧ Keep w2 wr) (fun i _ => n - (intOf i).toNat)
      case atStart => exact ⟨0, Nat.zero_le _, rfl, Keep.refl _⟩
      case round =>
        obtain ⟨j, hj, rfl, hk⟩ := hrel
        by_cases hlt : j < n
        · have hlj : j < ls.length := by rw [HN.out]; exact hlt
          have hoj : ls[j]? = some ls[j] := List.getElem?_eq_getElem hlj
          have hxok : ls[j].ok := HOK.out _ (List.getElem_mem hlj)
          generalize ls[j] = x at hoj hxok
          have HO := Lib.hid hoj
          have hb := dwn_bd hn16 j
          have hself : (dwn ls j).testBit j = true := dwn_self HOK.out hlj
          have hbit := bit_at (d := dwn ls j) (i := j) hb
          rw [if_pos hself] at hbit
          have hdb : blw ls x = dwn ls j := (dwn_some hoj).symm
          have hcl : decide (clo ls (dwn ls j) = dwn ls j) = true := by rw [← hdb]; simpa using clo_blw x hl16 HOK.out
          have hj16 : (j : Int) ≤ 16 := by omega
          have HD := Lib.hid hdb
          have HC := Lib.hid hcl
          obtain ⟨b', off', rfl, hb', c0, c1⟩ := LbS.cells (HP.out.keep (hK.trans hk) (Nat.le_refl _)) j x hoj
          have HX := Lib.hid (LbAt.new wr x)
          have hne := eql_self_lb x
          clear hoj hself hdb hcl hlj
          go_wp2_with (first
            | (go_at_call 11; refine (index_yes p ls x j _ (HL.out.keep (hk.alloc _)) HO.out).mono ?_; rintro e w3 ⟨rfl, hk3⟩)
            | (go_at_call 13; refine (at_yes p ls j x _ (HL.out.keep ((hk.alloc _).trans hk3)) HO.out).mono ?_; rintro e w4 ⟨rfl, hk4⟩))
          have HY := Lib.hid (LbAt.new w4 x)
          have HX4 := Lib.hid (HX.out.keep ((hk3.trans hk4).alloc (.cells #[.int .u8 x.lv, .int .u16 x.ct] 25)))
          have hK4 := (((hk.alloc (.cells #[.int .u8 x.lv, .int .u16 x.ct] 25)).trans hk3).trans hk4).alloc (.cells #[.int .u8 x.lv, .int .u16 x.ct] 25)
          clear hk3 hk4 HX c0 c1
          generalize w4.alloc (.cells #[.int .u8 x.lv, .int .u16 x.ct] 25) = W4 at *
          have HS := Lib.hid (show ∀ w', Keep W4 w' → Keep W4 w' ∧ ((w'.cell? ⟨wr.heap.size, 0, none⟩ = some (.int .u8 x.lv) ∧ w'.cell? ⟨wr.heap.size, 1, none⟩ = some (.int .u16 x.ct)) ∧ (w'.cell? ⟨w4.heap.size, 0, none⟩ = some (.int .u8 x.lv) ∧ w'.cell? ⟨w4.heap.size, 1, none⟩ = some (.int .u16 x.ct))) from
            fun w' h => ⟨h, (HX4.out.keep h).cells, (HY.out.keep h).cells⟩)
          have hKc := (Keep.refl W4).drew
          refine seq_region (S := fun w' => Keep W4 w' ∧ ((w'.cell? ⟨wr.heap.size, 0, none⟩ = some (.int .u8 x.lv) ∧ w'.cell? ⟨wr.heap.size, 1, none⟩ = some (.int .u16 x.ct)) ∧ (w'.cell? ⟨w4.heap.size, 0, none⟩ = some (.int .u8 x.lv) ∧ w'.cell? ⟨w4.heap.size, 1, none⟩ = some (.int .u16 x.ct)))) [⟨0, 128, 35184372088832⟩, ⟨0, 32, 70368744177664⟩, ⟨3, 105553116266496, 140737488355328⟩, ⟨4, 140737488355328, 281474976710656⟩, ⟨8, 281474976710912, 562949953421312⟩, ⟨24, 844424930131968, 1125899906842624⟩, ⟨40, 1407374883553280, 2251799813685248⟩, ⟨72, 2251799813685248, 4503599627370496⟩, ⟨128, 4503599627371008, 9007199254740992⟩, ⟨128, 4503599627370560, 18014398509481984⟩, ⟨896, 31525197391593472, 36028797018963968⟩, ⟨1152, 40532396646334464, 72057594037927936⟩, ⟨2176, 72057594037927936, 144115188075855872⟩, ⟨4096, 144115188075856896, 288230376151711744⟩, ⟨12288, 432345564227567616, 576460752303423488⟩, ⟨20480, 720575940379279360, 1152921504606846976⟩, ⟨36864, 1152921504606846976, 2305843009213693952⟩, ⟨65536, 2305843009213693960, 4611686018427387904⟩, ⟨65536, 2305843009213693984, 9223372036854775808⟩, ⟨458752, 16140901064495857664, 18446744073709551616⟩, ⟨65536, 2305843009213693984, 36893488147419103232⟩, ⟨1638400, 57646075230342348800, 73786976294838206464⟩, ⟨2162688, 76092819304051900416, 147573952589676412928⟩, ⟨4259840, 149879795598890106880, 295147905179352825856⟩, ⟨8454144, 297453748188566519808, 590295810358705651712⟩, ⟨17301504, 590295810358705651712, 1180591620717411303424⟩, ⟨33554432, 1180591620717411303432, 2361183241434822606848⟩, ⟨33554432, 1180591620717411303456, 4722366482869645213696⟩, ⟨234881024, 8264141345021879123968, 9444732965739290427392⟩, ⟨33554432, 1180591620717411303432, 18889465931478580854784⟩, ⟨33554432, 1180591620717411303488, 37778931862957161709568⟩, ⟨1912602624, 57848989415153153867776, 75557863725914323419136⟩, ⟨2449473536, 86183188312371025149952, 151115727451828646838272⟩, ⟨4328521728, 152296319072546058141696, 302231454903657293676544⟩, ⟨10737418240, 302231454903657293676544, 604462909807314587353088⟩, ⟨17179869184, 604462909807314587353096, 1208925819614629174706176⟩, ⟨17179869184, 604462909807314587353096, 2417851639229258349412352⟩, ⟨17179869184, 604462909807314587353120, 4835703278458516698824704⟩, ⟨223338299392, 7858017827495089635590144, 9671406556917033397649408⟩, ⟨326417514496, 11484795286338977159708672, 19342813113834066795298816⟩, ⟨566935683072, 19947276023641381382651904, 38685626227668133590597632⟩, ⟨1116691496960, 39290089137475448177950720, 77371252455336267181195264⟩] [(0, false), (1, false), (2, false), (3, false), (4, false), (5, false), (6, false), (7, false), (8, false), (9, false), (10, false), (11, false), (12, false), (13, false), (14, false), (15, false), (16, false), (17, false), (18, false), (20, false), (19, true), (21, false), (22, false), (23, false), (24, false), (25, false), (26, false), (27, false), (29, false), (30, false), (28, true), (31, true), (32, false), (33, false), (34, false), (35, false), (36, false), (37, false), (38, true), (39, true), (40, false), (41, false)] rfl (by kernel_rfl) (by kernel_rfl) (fun _ _ d _ _ h => by cases d <;> exact h) (HS.out _ hKc) ?_
          simp only [rowsOf, rowAt, gslot, List.map_cons, List.map_nil, List.getElem?_toArray, List.getElem?_cons_zero, List.getElem?_cons_succ, Option.bind_some]
          repeat (first
            | (refine seq_take (v := ?_) (a' := ?_) (by rfl) ?_ ?_ ?_
               rotate_left 2
               · (intro w hSw; obtain ⟨-, hSw⟩ := hSw; go_split_ands; go_simp; with_reducible rfl)
               · (simp only [Act.put, List.setIfInBounds_toArray, List.set_cons_zero, List.set_cons_succ]; with_reducible rfl))
            | (refine seq_callv (f := 17) (args := ?_) (v := ?_) (a' := ?_) (by rfl) (by rfl) (by rfl) Tryd.call17 ?_ ?_ ?_ ?_
               rotate_left 3
               · (go_simp; with_reducible rfl)
               · ((with_reducible refine (down_nat p ls j _ (HL.out.keep (hK4.trans hKc))).mono ?_)
                  rintro e w' ⟨rfl, hk⟩
                  refine ⟨?_, HS.out _ (hKc.trans hk)⟩
                  with_reducible rfl)
               · (simp only [Act.put, List.setIfInBounds_toArray, List.set_cons_zero, List.set_cons_succ]; with_reducible rfl)
               clear hKc
               intro w2 hw2
               have hKc := hw2.1
               clear hw2)
            | (refine seq_callv (f := 18) (args := ?_) (v := ?_) (a' := ?_) (by rfl) (by rfl) (by rfl) Tryd.call18 ?_ ?_ ?_ ?_
               rotate_left 3
               · (go_simp; with_reducible rfl)
               · ((with_reducible refine (below_is p ls x _ _ (HL.out.keep (hK4.trans hKc)) hxok HD.out).mono ?_)
                  rintro e w' ⟨rfl, hk⟩
                  refine ⟨?_, HS.out _ (hKc.trans hk)⟩
                  with_reducible rfl)
               · (simp only [Act.put, List.setIfInBounds_toArray, List.set_cons_zero, List.set_cons_succ]; with_reducible rfl)
               clear hKc
               intro w2 hw2
               have hKc := hw2.1
               clear hw2)
            | (refine seq_callv (f := 20) (args := ?_) (v := ?_) (a' := ?_) (by rfl) (by rfl) (by rfl) Tryd.call20 ?_ ?_ ?_ ?_
               rotate_left 3
               · (go_simp; with_reducible rfl)
               · ((with_reducible refine (closed_is p ls _ _ _ (HL.out.keep (hK4.trans hKc)) hb (HT.out.keep (hK.trans (hK4.trans hKc))) HC.out).mono ?_)
                  rintro e w' ⟨rfl, hk⟩
                  refine ⟨?_, HS.out _ (hKc.trans hk)⟩
                  with_reducible rfl)
               · (simp only [Act.put, List.setIfInBounds_toArray, List.set_cons_zero, List.set_cons_succ]; with_reducible rfl)
               clear hKc
               intro w2 hw2
               have hKc := hw2.1
               clear hw2)
            | (refine seq_skip (a' := ?_) (HS.out _ hKc) (by rfl) ?_ ?_
               rotate_left
               · (simp only [Act.put, List.setIfInBounds_toArray, List.set_cons_zero, List.set_cons_succ]; with_reducible rfl)))
          refine seq_nil ?_
          have hKd := hKc
          clear hKc HS HX4 HY
          go_wp2_with fail
          go_loopw [89] (fun i wi => ∃ (k : Nat), k ≤ n ∧ i = .int .i64 k ∧ Keep W4 wi) (fun i _ => n - (intOf i).toNat)
          case atStart => exact ⟨0, Nat.zero_le _, rfl, hKd⟩
          case round =>
            obtain ⟨k, hkn, rfl, hki⟩ := hrel
            by_cases hlk : k < n
            · have hbit2 := bit_at (d := dwn ls j) (i := k) hb
              have hk16 : (k : Int) ≤ 16 := by omega
              have hnot : ((dwn ls j).testBit k = true) → bits BinOp.andNot IntKind.u32 (dwn ls k : Int) (dwn ls j : Int) = 0 := fun h => by rw [u32_andNot, dwn_sub h]; rfl
              have HLi := Lib.hid (HL.out.keep (hK4.trans hki))
              cases ht : (dwn ls j).testBit k
              · rw [ht] at hbit2
                simp at hbit2
                clear hnot ht
                go_wp2_with (go_at_call 17; refine (down_nat p ls j _ HLi.out).mono ?_; rintro e w5 ⟨rfl, hk5⟩)
                go_roundw
                case rel => exact ⟨k + 1, hlk, by go_num, hki.trans hk5⟩
                case measure => simp [intOf]; omega
              · rw [ht] at hbit2
                simp at hbit2
                have hno := hnot ht
                clear hnot ht
                go_wp2_with fail
                go_at_call 17
                refine (down_nat p ls j _ HLi.out).mono ?_
                rintro e w5 ⟨rfl, hk5⟩
                go_wp2_with fail
                go_at_call 17
                refine (down_nat p ls k _ (HLi.out.keep hk5)).mono ?_
                rintro e w6 ⟨rfl, hk6⟩
                go_wp2_with fail
                go_at_call 17
                refine (down_nat p ls j _ (HLi.out.keep (hk5.trans hk6))).mono ?_
                rintro e w7 ⟨rfl, hk7⟩
                go_wp2_with fail
                go_roundw
                case rel => exact ⟨k + 1, hlk, by go_num, ((hki.trans hk5).trans hk6).trans hk7⟩
                case measure => simp [intOf]; omega
            · obtain rfl : k = n := by omega
              go_wp2_with fail
              go_roundw
              case rel => exact ⟨j + 1, hlt, by go_num, hK4.trans hki⟩
              case measure => simp [intOf]; omega
        · obtain rfl : j = n := by omega
          have hm1 : (-1 : Int) < 0 := by decide
          go_wp2_with fail
          go_at_call 17
          refine (down_no p ls (-1) _ (HL.out.keep hk) (.inl (by decide))).mono ?_
          rintro e w3 ⟨rfl, hk3⟩
          replace hk3 := hk.trans hk3
          clear hk
          go_wp2_with fail
          go_at_call 17
          refine (down_no p ls _ _ (HL.out.keep hk3) (.inr HG.out)).mono ?_
          rintro e w4 ⟨rfl, hk4⟩
          go_wp2
          go_ret
          exact ⟨rfl, hK.trans (hk3.trans hk4)⟩
    · go_enter Tryd.func5, Tryd.ntmps5
      go_wp2_with (first
        | (go_at_call 8; refine (alive_any _ HT.out).mono ?_; rintro e w1 ⟨rfl, hk1⟩)
        | (go_at_call 9; refine (new_no _ _ _ ls _ _ (HP.out.up hk1) HOK.out (by omega) rfl hE).mono ?_; rintro e w2 ⟨rfl, hk2⟩))
      go_ret
      exact ⟨rfl, hk1.trans hk2⟩

theorem LatticeNumbers_std (a : Option Addr) (len cap : Nat) (ls : List Lb) (w : World) (row : LbArg w a len ls) (hT : Tab w) :
    Calls Tryd.prog 5 #[.slice a len cap] w fun e w' => e = .returned (.bool true) ∧ Below w.heap.size w w' := numbers_law a len cap ls w row hT
end Go.Proofs.YtknjekakncjbgabDoor
