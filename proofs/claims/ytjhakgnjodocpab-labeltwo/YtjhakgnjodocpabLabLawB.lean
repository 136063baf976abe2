/- The walk of LabelTwo. -/
import Derived.Test.YtjhakgnjodocpabLabArg
import Derived.Test.YtjhakgnjodocpabLabRef2
import Derived.Test.YtjhakgnjodocpabSeq
namespace Go.Proofs.Ytjhakgnjodocpab
open Go.RowKit

theorem chk_le (a : Lb) : (chk a == 0) = decide (a.lv ≤ 15) := by
  unfold chk
  by_cases h : a.lv ≤ 15 <;> simp [h]

set_option maxRecDepth 100000 in
set_option maxHeartbeats 4000000 in
theorem two_core (a b : Lb) (n : Int) (w : World) (ha : a.ok) (hb : b.ok) (hn : 0 ≤ n) :
    Calls Try.prog 3 #[.agg #[.int .u8 a.lv, .int .u16 a.ct], .agg #[.int .u8 b.lv, .int .u16 b.ct], .int .u64 n] w fun e w' => e = .returned (.bool true) ∧ Keep w w' := by
  have q1 := equalIn_lb
  have q2 := eq4_self
  have hck := chk_le a
  obtain ⟨HA, HB⟩ := LbAt.two w a b
  have hk0 := ((Keep.refl w).alloc (.cells #[.int .u8 a.lv, .int .u16 a.ct] 24)).alloc (.cells #[.int .u8 b.lv, .int .u16 b.ct] 24)
  have HF := Lib.hid (fun wx => from_any n wx hn)
  have HR := Lib.hid (fun wx => rfrom_any n wx hn)
  generalize frL n = l at *
  generalize frE n = ee at *
  go_enter Try.func3, Try.ntmps3
  go_wp2_with fail
  refine (alive_any _).mono ?_
  rintro e w1 ⟨rfl, hk1⟩
  have hA := HA.keep hk1
  have hB := HB.keep hk1
  have hK := hk0.trans hk1
  clear HA HB hk0 hk1
  go_wp2_with fail
  refine (HF.out _).mono ?_
  rintro e w2 ⟨rfl, hk2⟩
  have hA := (hA.keep hk2).keep ((Keep.refl w2).alloc (.cells #[.int .u8 l.lv, .int .u16 l.ct] 24))
  have hB := (hB.keep hk2).keep ((Keep.refl w2).alloc (.cells #[.int .u8 l.lv, .int .u16 l.ct] 24))
  have hL := LbAt.new w2 l
  have hK := (hK.trans hk2).alloc (.cells #[.int .u8 l.lv, .int .u16 l.ct] 24)
  clear hk2
  go_wp2_with fail
  generalize w2.alloc (.cells #[.int .u8 l.lv, .int .u16 l.ct] 24) = w3 at *
  refine (HR.out _).mono ?_
  rintro e w4 ⟨rfl, hk4⟩
  have hA := (hA.keep hk4).keep ((Keep.refl w4).alloc (.cells #[.int .u8 l.lv, .int .u16 l.ct] 24))
  have hB := (hB.keep hk4).keep ((Keep.refl w4).alloc (.cells #[.int .u8 l.lv, .int .u16 l.ct] 24))
  have hL := (hL.keep hk4).keep ((Keep.refl w4).alloc (.cells #[.int .u8 l.lv, .int .u16 l.ct] 24))
  have hM := LbAt.new w4 l
  have hK := (hK.trans hk4).alloc (.cells #[.int .u8 l.lv, .int .u16 l.ct] 24)
  clear hk4
  go_wp2_with fail
  generalize w4.alloc (.cells #[.int .u8 l.lv, .int .u16 l.ct] 24) = W0 at *
  have HS := Lib.hid (show ∀ w', Keep W0 w' → Keep W0 w' ∧ ((w'.cell? ⟨w.heap.size, 0, none⟩ = some (.int .u8 a.lv) ∧ w'.cell? ⟨w.heap.size, 1, none⟩ = some (.int .u16 a.ct)) ∧ (w'.cell? ⟨w.heap.size + 1, 0, none⟩ = some (.int .u8 b.lv) ∧ w'.cell? ⟨w.heap.size + 1, 1, none⟩ = some (.int .u16 b.ct)) ∧ (w'.cell? ⟨w2.heap.size, 0, none⟩ = some (.int .u8 l.lv) ∧ w'.cell? ⟨w2.heap.size, 1, none⟩ = some (.int .u16 l.ct)) ∧ (w'.cell? ⟨w4.heap.size, 0, none⟩ = some (.int .u8 l.lv) ∧ w'.cell? ⟨w4.heap.size, 1, none⟩ = some (.int .u16 l.ct))) from
    fun w' h => ⟨h, (hA.keep h).cells, (hB.keep h).cells, (hL.keep h).cells, (hM.keep h).cells⟩)
  clear hA hB hL hM
  have hKc : Keep W0 W0.drew := (Keep.refl _).drew
  refine seq_region (S := fun w' => Keep W0 w' ∧ ((w'.cell? ⟨w.heap.size, 0, none⟩ = some (.int .u8 a.lv) ∧ w'.cell? ⟨w.heap.size, 1, none⟩ = some (.int .u16 a.ct)) ∧ (w'.cell? ⟨w.heap.size + 1, 0, none⟩ = some (.int .u8 b.lv) ∧ w'.cell? ⟨w.heap.size + 1, 1, none⟩ = some (.int .u16 b.ct)) ∧ (w'.cell? ⟨w2.heap.size, 0, none⟩ = some (.int .u8 l.lv) ∧ w'.cell? ⟨w2.heap.size, 1, none⟩ = some (.int .u16 l.ct)) ∧ (w'.cell? ⟨w4.heap.size, 0, none⟩ = some (.int .u8 l.lv) ∧ w'.cell? ⟨w4.heap.size, 1, none⟩ = some (.int .u16 l.ct)))) [⟨0, 8, 8388608⟩, ⟨0, 16, 16777216⟩, ⟨3, 25165824, 33554432⟩, ⟨0, 8, 67108864⟩, ⟨0, 16, 134217728⟩, ⟨28, 201326592, 268435456⟩, ⟨36, 301989888, 536870912⟩, ⟨96, 536870912, 1073741824⟩, ⟨128, 1073741832, 2147483648⟩, ⟨128, 1073741840, 4294967296⟩, ⟨896, 7516192768, 8589934592⟩, ⟨128, 1073741832, 17179869184⟩, ⟨128, 1073741840, 34359738368⟩, ⟨7296, 52613349376, 68719476736⟩, ⟨9344, 78383153152, 137438953472⟩, ⟨16512, 138512695296, 274877906944⟩, ⟨40960, 274877906944, 549755813888⟩, ⟨65536, 549755813896, 1099511627776⟩, ⟨65536, 549755813904, 2199023255552⟩, ⟨458752, 3848290697216, 4398046511104⟩, ⟨65536, 549755813896, 8796093022208⟩, ⟨65536, 549755813904, 17592186044416⟩, ⟨3735552, 26938034880512, 35184372088832⟩, ⟨4784128, 40132174413824, 70368744177664⟩, ⟨8454144, 70918499991552, 140737488355328⟩, ⟨20971520, 140737488355328, 281474976710656⟩, ⟨33554432, 281474976710664, 562949953421312⟩, ⟨100663296, 844424930131968, 1125899906842624⟩, ⟨167772160, 1407374883553280, 2251799813685248⟩, ⟨33554432, 281474976710664, 4503599627370496⟩, ⟨570425344, 4785074604081152, 9007199254740992⟩, ⟨1107296256, 9288674231451648, 18014398509481984⟩, ⟨2449473536, 20547673299877888, 36028797018963968⟩, ⟨4328521728, 36310271995674624, 72057594037927936⟩, ⟨8724152320, 72057594037927936, 144115188075855872⟩, ⟨17179869184, 144115188075855880, 288230376151711744⟩, ⟨51539607552, 432345564227567616, 576460752303423488⟩, ⟨17179869184, 144115188075855880, 1152921504606846976⟩, ⟨223338299392, 1297036692682702848, 2305843009213693952⟩, ⟨360777252864, 3026418949592973312, 4611686018427387904⟩, ⟨566935683072, 4755801206503243776, 9223372036854775808⟩, ⟨1374389534720, 9223372036854775808, 18446744073709551616⟩, ⟨2199023255552, 18446744073709551744, 36893488147419103232⟩, ⟨2199023255552, 18446744073709552128, 73786976294838206464⟩, ⟨15393162788864, 129127208515966861312, 147573952589676412928⟩, ⟨19791209299968, 166020696663385964544, 295147905179352825856⟩, ⟨37383395344384, 295147905179352825856, 590295810358705651712⟩, ⟨70368744177664, 590295810358705651968, 1180591620717411303424⟩, ⟨70368744177664, 590295810358705652736, 2361183241434822606848⟩, ⟨492581209243648, 4132070672510939561984, 4722366482869645213696⟩, ⟨633318697598976, 5312662293228350865408, 9444732965739290427392⟩, ⟨1196268651020288, 9444732965739290427392, 18889465931478580854784⟩, ⟨2251799813685248, 18889465931478580854792, 37778931862957161709568⟩, ⟨2251799813685248, 18889465931478580854800, 75557863725914323419136⟩, ⟨15762598695796736, 132226261520350065983488, 151115727451828646838272⟩, ⟨2251799813685248, 18889465931478580854792, 302231454903657293676544⟩, ⟨56294995342131200, 321120920835135874531328, 604462909807314587353088⟩, ⟨2251799813685248, 18889465931478580854800, 1208925819614629174706176⟩, ⟨218424581927469056, 1227815285546107755560960, 2417851639229258349412352⟩, ⟨362539770003324928, 3041204014968051517620224, 4835703278458516698824704⟩, ⟨596726950626590720, 5005708471841823926517760, 9671406556917033397649408⟩, ⟨1155173304420532224, 9690296022848511978504192, 19342813113834066795298816⟩, ⟨4611686018427387903, 19342813113834066795298816, 64⟩] [(0, false), (1, false), (3, false), (4, false), (2, true), (5, true), (6, false), (7, false), (8, false), (9, false), (11, false), (12, false), (10, true), (13, true), (14, false), (15, false), (16, false), (17, false), (18, false), (20, false), (21, false), (19, true), (22, true), (23, false), (24, false), (25, false), (26, false), (29, false), (30, false), (31, false), (27, true), (28, false), (32, false), (33, false), (34, false), (35, false), (37, false), (36, true), (38, true), (39, false), (40, false), (41, false), (42, false), (43, false), (44, false), (45, false), (46, false), (47, false), (48, false), (49, false), (50, false), (51, false), (52, false), (53, false), (55, false), (57, false), (54, true), (56, true), (58, true), (59, false), (60, false), (61, false), (62, false)] rfl (by kernel_rfl) (by kernel_rfl) (fun _ _ d _ _ h => by cases d <;> exact h) (HS.out _ hKc) ?_
  simp only [rowsOf, rowAt, gslot, List.map_cons, List.map_nil, List.getElem?_toArray, List.getElem?_cons_zero, List.getElem?_cons_succ, Option.bind_some]
  repeat (first
    | (refine seq_take (v := ?_) (a' := ?_) (by rfl) ?_ ?_ ?_
       rotate_left 2
       · (intro w hSw; obtain ⟨-, hSw⟩ := hSw; go_split_ands; go_simp; with_reducible rfl)
       · (simp only [Act.put, List.setIfInBounds_toArray, List.set_cons_zero, List.set_cons_succ]; with_reducible rfl))
    | (refine seq_callv (f := 11) (args := ?_) (v := ?_) (a' := ?_) (by rfl) (by rfl) (by rfl) Try.call11 ?_ ?_ ?_ ?_
       rotate_left 3
       · (go_simp; with_reducible rfl)
       · ((with_reducible refine (dom_any _ _ _ (by assumption) (by assumption)).mono ?_)
          rintro e w' ⟨rfl, hk⟩
          refine ⟨?_, HS.out _ (hKc.trans hk)⟩
          with_reducible rfl)
       · (simp only [Act.put, List.setIfInBounds_toArray, List.set_cons_zero, List.set_cons_succ]; with_reducible rfl)
       clear hKc
       intro w2 hw2
       have hKc := hw2.1
       clear hw2)
    | (refine seq_callv (f := 12) (args := ?_) (v := ?_) (a' := ?_) (by rfl) (by rfl) (by rfl) Try.call12 ?_ ?_ ?_ ?_
       rotate_left 3
       · (go_simp; with_reducible rfl)
       · ((with_reducible refine (rdom_any _ _ _ (by assumption) (by assumption)).mono ?_)
          rintro e w' ⟨rfl, hk⟩
          refine ⟨?_, HS.out _ (hKc.trans hk)⟩
          with_reducible rfl)
       · (simp only [Act.put, List.setIfInBounds_toArray, List.set_cons_zero, List.set_cons_succ]; with_reducible rfl)
       clear hKc
       intro w2 hw2
       have hKc := hw2.1
       clear hw2)
    | (refine seq_callv (f := 13) (args := ?_) (v := ?_) (a' := ?_) (by rfl) (by rfl) (by rfl) Try.call13 ?_ ?_ ?_ ?_
       rotate_left 3
       · (go_simp; with_reducible rfl)
       · ((with_reducible refine (join_any _ _ _ (by assumption) (by assumption)).mono ?_)
          rintro e w' ⟨rfl, hk⟩
          refine ⟨?_, HS.out _ (hKc.trans hk)⟩
          with_reducible rfl)
       · (simp only [Act.put, List.setIfInBounds_toArray, List.set_cons_zero, List.set_cons_succ]; with_reducible rfl)
       clear hKc
       intro w2 hw2
       have hKc := hw2.1
       clear hw2)
    | (refine seq_callv (f := 14) (args := ?_) (v := ?_) (a' := ?_) (by rfl) (by rfl) (by rfl) Try.call14 ?_ ?_ ?_ ?_
       rotate_left 3
       · (go_simp; with_reducible rfl)
       · ((with_reducible refine (rjoin_any _ _ _ (by assumption) (by assumption)).mono ?_)
          rintro e w' ⟨rfl, hk⟩
          refine ⟨?_, HS.out _ (hKc.trans hk)⟩
          with_reducible rfl)
       · (simp only [Act.put, List.setIfInBounds_toArray, List.set_cons_zero, List.set_cons_succ]; with_reducible rfl)
       clear hKc
       intro w2 hw2
       have hKc := hw2.1
       clear hw2)
    | (refine seq_callv (f := 15) (args := ?_) (v := ?_) (a' := ?_) (by rfl) (by rfl) (by rfl) Try.call15 ?_ ?_ ?_ ?_
       rotate_left 3
       · (go_simp; with_reducible rfl)
       · ((with_reducible refine (meet_any _ _ _ (by assumption) (by assumption)).mono ?_)
          rintro e w' ⟨rfl, hk⟩
          refine ⟨?_, HS.out _ (hKc.trans hk)⟩
          with_reducible rfl)
       · (simp only [Act.put, List.setIfInBounds_toArray, List.set_cons_zero, List.set_cons_succ]; with_reducible rfl)
       clear hKc
       intro w2 hw2
       have hKc := hw2.1
       clear hw2)
    | (refine seq_callv (f := 16) (args := ?_) (v := ?_) (a' := ?_) (by rfl) (by rfl) (by rfl) Try.call16 ?_ ?_ ?_ ?_
       rotate_left 3
       · (go_simp; with_reducible rfl)
       · ((with_reducible refine (rmeet_any _ _ _ (by assumption) (by assumption)).mono ?_)
          rintro e w' ⟨rfl, hk⟩
          refine ⟨?_, HS.out _ (hKc.trans hk)⟩
          with_reducible rfl)
       · (simp only [Act.put, List.setIfInBounds_toArray, List.set_cons_zero, List.set_cons_succ]; with_reducible rfl)
       clear hKc
       intro w2 hw2
       have hKc := hw2.1
       clear hw2)
    | (refine seq_callv (f := 17) (args := ?_) (v := ?_) (a' := ?_) (by rfl) (by rfl) (by rfl) Try.call17 ?_ ?_ ?_ ?_
       rotate_left 3
       · (go_simp; with_reducible rfl)
       · ((with_reducible refine (check_any _ _).mono ?_)
          rintro e w' ⟨rfl, hk⟩
          refine ⟨?_, HS.out _ (hKc.trans hk)⟩
          with_reducible rfl)
       · (simp only [Act.put, List.setIfInBounds_toArray, List.set_cons_zero, List.set_cons_succ]; with_reducible rfl)
       clear hKc
       intro w2 hw2
       have hKc := hw2.1
       clear hw2)
    | (refine seq_callv (f := 18) (args := ?_) (v := ?_) (a' := ?_) (by rfl) (by rfl) (by rfl) Try.call18 ?_ ?_ ?_ ?_
       rotate_left 3
       · (go_simp; with_reducible rfl)
       · ((with_reducible refine (number_any _ _ (by assumption)).mono ?_)
          rintro e w' ⟨rfl, hk⟩
          refine ⟨?_, HS.out _ (hKc.trans hk)⟩
          with_reducible rfl)
       · (simp only [Act.put, List.setIfInBounds_toArray, List.set_cons_zero, List.set_cons_succ]; with_reducible rfl)
       clear hKc
       intro w2 hw2
       have hKc := hw2.1
       clear hw2)
    | (refine seq_callv (f := 19) (args := ?_) (v := ?_) (a' := ?_) (by rfl) (by rfl) (by rfl) Try.call19 ?_ ?_ ?_ ?_
       rotate_left 3
       · (go_simp; with_reducible rfl)
       · ((with_reducible refine (rnumber_any _ _ (by assumption)).mono ?_)
          rintro e w' ⟨rfl, hk⟩
          refine ⟨?_, HS.out _ (hKc.trans hk)⟩
          with_reducible rfl)
       · (simp only [Act.put, List.setIfInBounds_toArray, List.set_cons_zero, List.set_cons_succ]; with_reducible rfl)
       clear hKc
       intro w2 hw2
       have hKc := hw2.1
       clear hw2)
    | (refine seq_callv (f := 20) (args := ?_) (v := ?_) (a' := ?_) (by rfl) (by rfl) (by rfl) Try.call20 ?_ ?_ ?_ ?_
       rotate_left 3
       · (go_simp; with_reducible rfl)
       · ((with_reducible refine (less_any _ _ _ (by assumption) (by assumption)).mono ?_)
          rintro e w' ⟨rfl, hk⟩
          refine ⟨?_, HS.out _ (hKc.trans hk)⟩
          with_reducible rfl)
       · (simp only [Act.put, List.setIfInBounds_toArray, List.set_cons_zero, List.set_cons_succ]; with_reducible rfl)
       clear hKc
       intro w2 hw2
       have hKc := hw2.1
       clear hw2)
    | (refine seq_skip (a' := ?_) (HS.out _ hKc) (by rfl) ?_ ?_
       rotate_left
       · (simp only [Act.put, List.setIfInBounds_toArray, List.set_cons_zero, List.set_cons_succ]; with_reducible rfl)))
  refine seq_nil ?_
  go_wp2
  go_ret
  exact ⟨rfl, hK.trans hKc⟩

theorem LabelTwo_std (z0 z1 : Lb) (a2 : Int) (w2 : (Lit.int .u64 a2).wf = true) (w : World) (h0 : z0.ok) (h1 : z1.ok) :
    Calls Try.prog 3 #[.agg #[.int .u8 z0.lv, .int .u16 z0.ct], .agg #[.int .u8 z1.lv, .int .u16 z1.ct], .int .u64 a2] w fun e w' => e = .returned (.bool true) ∧ Below w.heap.size w w' :=
  two_core z0 z1 a2 w h0 h1 (by have := bounds_u64 w2; omega)
end Go.Proofs.Ytjhakgnjodocpab
