/- The walk of LabelBits. -/
import Derived.Test.YtjhakgnjodocpabLabArg
import Derived.Test.YtjhakgnjodocpabLabRef
import Derived.Test.YtjhakgnjodocpabSeq
namespace Go.Proofs.Ytjhakgnjodocpab
open Go.RowKit

theorem top_ok : (⟨15, 65535⟩ : Lb).ok := by unfold Lb.ok; decide
theorem zero_ok : (⟨0, 0⟩ : Lb).ok := by unfold Lb.ok; decide
theorem dm_top {a : Lb} (ha : a.ok) (h : chk a = 0) : dm ⟨15, 65535⟩ a = true := by
  have hl : a.lv ≤ 15 := by
    unfold chk at h
    by_cases h' : a.lv ≤ 15
    · exact h'
    · rw [if_neg h'] at h; cases h
  rw [dm_bits top_ok ha (fun i hi _ => ?_)]
  · simpa using hl
  · have hi' : i = 0 ∨ i = 1 ∨ i = 2 ∨ i = 3 ∨ i = 4 ∨ i = 5 ∨ i = 6 ∨ i = 7 ∨ i = 8 ∨ i = 9 ∨ i = 10 ∨ i = 11 ∨ i = 12 ∨ i = 13 ∨ i = 14 ∨ i = 15 := by omega
    rcases hi' with rfl | rfl | rfl | rfl | rfl | rfl | rfl | rfl | rfl | rfl | rfl | rfl | rfl | rfl | rfl | rfl <;> decide +kernel
theorem dm_zero {a : Lb} (ha : a.ok) : dm a ⟨0, 0⟩ = true := by
  rw [dm_bits ha zero_ok (fun i _ h => ?_)]
  · simpa using ha.1.1
  · have : bt 0 i = false := by simp [bt]
    rw [this] at h
    cases h
theorem eq_mt {a b : Lb} (ha : a.ok) (hb : b.ok) : eq4 (mt a b).lv (mt a b).ct b.lv b.ct = dm a b := by
  have h := dm_mt_iff ha hb
  rw [← eqL_iff] at h
  exact (Bool.eq_iff_iff.2 h).symm
theorem nm_eq {a b : Lb} (ha : a.ok) (hb : b.ok) : (nm a == nm b) = eq4 a.lv a.ct b.lv b.ct := by
  rw [Bool.eq_iff_iff, beq_iff_eq]
  show nm a = nm b ↔ eqL a b = true
  rw [eqL_iff]
  exact ⟨nm_inj ha hb, fun h => by rw [h]⟩
theorem chk_two (a : Lb) : chk a = 0 ∨ chk a = 23 := by
  unfold chk
  by_cases h : a.lv ≤ 15
  · exact .inl (if_pos h)
  · exact .inr (if_neg h)

set_option maxRecDepth 100000 in
set_option maxHeartbeats 4000000 in
theorem bits_core (a b : Lb) (c : Int) (t l m : Bool) (w : World) (ha : a.ok) (hb : b.ok) (HC : Hid (chk a = c)) (HT : Hid (dm ⟨15, 65535⟩ a = t)) (HL : Hid (decide (nm a < nm b) = l)) (HM : Hid (decide (nm b < nm a) = m))
    (hcs : (c = 0 ∧ t = true ∨ c = 23) ∧ (l = true ∧ m = false ∨ l = false)) :
    Calls Try.prog 7 #[.agg #[.int .u8 a.lv, .int .u16 a.ct], .agg #[.int .u8 b.lv, .int .u16 b.ct]] w fun e w' => e = .returned (.bool true) ∧ Keep w w' := by
  have q1 := equalIn_lb
  obtain ⟨HA, HB⟩ := LbAt.two w a b
  have hk0 := ((Keep.refl w).alloc (.cells #[.int .u8 a.lv, .int .u16 a.ct] 24)).alloc (.cells #[.int .u8 b.lv, .int .u16 b.ct] 24)
  have HZ := Lib.hid (dm_zero ha)
  have e1 : eq4 (jn a b).lv (jn a b).ct a.lv a.ct = dm a b := rfl
  have e2 := eq_mt ha hb
  have e3 := nm_eq ha hb
  obtain ⟨d, hd⟩ : ∃ d, dm a b = d := ⟨_, rfl⟩
  rw [hd] at e1 e2
  have HD := Lib.hid hd
  clear hd
  obtain ⟨q, hq⟩ : ∃ q, eq4 a.lv a.ct b.lv b.ct = q := ⟨_, rfl⟩
  rw [hq] at e3
  go_enter Try.func7, Try.ntmps7
  go_wp2_with fail
  refine (alive_any _).mono ?_
  rintro e w1 ⟨rfl, hk1⟩
  have hA := (HA.keep hk1).keep ((Keep.refl w1).alloc (.cells #[.int .u8 15, .int .u16 65535] 24))
  have hB := (HB.keep hk1).keep ((Keep.refl w1).alloc (.cells #[.int .u8 15, .int .u16 65535] 24))
  have hT := LbAt.new w1 ⟨15, 65535⟩
  have hK := (hk0.trans hk1).alloc (.cells #[.int .u8 15, .int .u16 65535] 24)
  clear HA HB hk0
  obtain ⟨a0, a1⟩ := hA.cells
  obtain ⟨b0, b1⟩ := hB.cells
  have hz1 := hk1.size
  simp only [World.size_alloc] at hz1
  clear hk1
  go_wp2_with fail
  refine (dom_is a b d _ ha hb HD.out).mono ?_
  rintro e W0 ⟨rfl, hk2⟩
  have hA := hA.keep hk2
  have hB := hB.keep hk2
  have hT := LbAt.keep hT hk2
  have hK := hK.trans hk2
  clear a0 a1 b0 b1 hk2
  go_wp2_with fail
  have HS := Lib.hid (show ∀ w', Keep W0 w' → Keep W0 w' ∧ ((w'.cell? ⟨w.heap.size, 0, none⟩ = some (.int .u8 a.lv) ∧ w'.cell? ⟨w.heap.size, 1, none⟩ = some (.int .u16 a.ct)) ∧ (w'.cell? ⟨w.heap.size + 1, 0, none⟩ = some (.int .u8 b.lv) ∧ w'.cell? ⟨w.heap.size + 1, 1, none⟩ = some (.int .u16 b.ct)) ∧ (w'.cell? ⟨w1.heap.size, 0, none⟩ = some (.int .u8 15) ∧ w'.cell? ⟨w1.heap.size, 1, none⟩ = some (.int .u16 65535))) from
    fun w' h => ⟨h, (hA.keep h).cells, (hB.keep h).cells, (hT.keep h).cells⟩)
  clear hA hB hT
  have hKc : Keep W0 W0.drew := (Keep.refl _).drew
  refine seq_region (S := fun w' => Keep W0 w' ∧ ((w'.cell? ⟨w.heap.size, 0, none⟩ = some (.int .u8 a.lv) ∧ w'.cell? ⟨w.heap.size, 1, none⟩ = some (.int .u16 a.ct)) ∧ (w'.cell? ⟨w.heap.size + 1, 0, none⟩ = some (.int .u8 b.lv) ∧ w'.cell? ⟨w.heap.size + 1, 1, none⟩ = some (.int .u16 b.ct)) ∧ (w'.cell? ⟨w1.heap.size, 0, none⟩ = some (.int .u8 15) ∧ w'.cell? ⟨w1.heap.size, 1, none⟩ = some (.int .u16 65535)))) [⟨0, 64, 8192⟩, ⟨0, 4, 16384⟩, ⟨0, 8, 32768⟩, ⟨6, 49152, 65536⟩, ⟨0, 4, 131072⟩, ⟨24, 196608, 262144⟩, ⟨33, 270336, 524288⟩, ⟨72, 524288, 1048576⟩, ⟨128, 1048640, 2097152⟩, ⟨128, 1048580, 4194304⟩, ⟨128, 1048584, 8388608⟩, ⟨1664, 13631488, 16777216⟩, ⟨128, 1048584, 33554432⟩, ⟨6272, 51380224, 67108864⟩, ⟨8576, 70254592, 134217728⟩, ⟨16512, 135266304, 268435456⟩, ⟨34816, 268435456, 536870912⟩, ⟨65536, 536870916, 1073741824⟩, ⟨196608, 1610612736, 2147483648⟩, ⟨327680, 2684354560, 4294967296⟩, ⟨851968, 4831838208, 8589934592⟩, ⟨1048576, 8589934624, 17179869184⟩, ⟨1048576, 8589934596, 34359738368⟩, ⟨7340032, 60129542144, 68719476736⟩, ⟨9502720, 77846282240, 137438953472⟩, ⟨16842752, 137975824384, 274877906944⟩, ⟨41943040, 274877906944, 549755813888⟩, ⟨67108864, 549755813892, 1099511627776⟩, ⟨67108864, 549755813888, 2199023255552⟩, ⟨469762048, 3848290697216, 4398046511104⟩, ⟨603979776, 4947802324992, 8796093022208⟩, ⟨1610612736, 8796093022208, 17592186044416⟩, ⟨2147483648, 17592186044420, 35184372088832⟩, ⟨6442450944, 52776558133248, 70368744177664⟩, ⟨2147483648, 17592186044424, 140737488355328⟩, ⟨27917287424, 158329674399744, 281474976710656⟩, ⟨45097156608, 369435906932736, 562949953421312⟩, ⟨2147483648, 17592186044420, 1125899906842624⟩, ⟨2147483648, 17592186044424, 2251799813685248⟩, ⟨414464344064, 3395291906572288, 4503599627370496⟩, ⟨620622774272, 5084141766836224, 9007199254740992⟩, ⟨1101659111424, 9024791440785408, 18014398509481984⟩, ⟨2233382993920, 18014398509481984, 36028797018963968⟩, ⟨4398046511104, 36028797018963972, 72057594037927936⟩, ⟨4398046511104, 36028797018963976, 144115188075855872⟩, ⟨30786325577728, 252201579132747776, 288230376151711744⟩, ⟨39582418599936, 324259173170675712, 576460752303423488⟩, ⟨70368744177664, 576460752303423496, 1152921504606846976⟩, ⟨70368744177664, 576460752303423492, 2305843009213693952⟩, ⟨492581209243648, 4035225266123964416, 4611686018427387904⟩, ⟨637716744110080, 5224175567749775360, 9223372036854775808⟩, ⟨1130297953353728, 9259400833873739776, 18446744073709551616⟩, ⟨2256197860196352, 18482772870728515584, 36893488147419103232⟩, ⟨9007199254740991, 36893488147419103232, 16⟩] [(0, false), (1, false), (2, false), (4, false), (3, true), (5, false), (6, false), (7, false), (8, false), (9, false), (10, false), (12, false), (11, true), (13, false), (14, false), (15, false), (16, false), (17, false), (18, true), (19, false), (20, false), (21, false), (22, false), (23, true), (24, false), (25, false), (26, false), (27, false), (28, false), (29, true), (30, false), (31, false), (32, false), (34, false), (37, false), (38, false), (39, false), (33, true), (35, true), (36, false), (40, false), (41, false), (42, false), (43, false), (44, false), (45, true), (46, false), (47, false), (48, false), (49, true), (50, false), (51, false), (52, false), (53, false)] rfl (by kernel_rfl) (by kernel_rfl) (fun _ _ d _ _ h => by cases d <;> exact h) (HS.out _ hKc) ?_
  simp only [rowsOf, rowAt, gslot, List.map_cons, List.map_nil, List.getElem?_toArray, List.getElem?_cons_zero, List.getElem?_cons_succ, Option.bind_some]
  obtain ⟨⟨rfl, rfl⟩ | rfl, ⟨rfl, rfl⟩ | rfl⟩ := hcs
  all_goals
    repeat (first
      | (refine seq_take (v := ?_) (a' := ?_) (by rfl) ?_ ?_ ?_
         rotate_left 2
         · (intro w hSw; obtain ⟨-, hSw⟩ := hSw; go_split_ands; go_simp; with_reducible rfl)
         · (simp only [Act.put, List.setIfInBounds_toArray, List.set_cons_zero, List.set_cons_succ]; with_reducible rfl))
      | (refine seq_callv (f := 11) (args := ?_) (v := ?_) (a' := ?_) (by rfl) (by rfl) (by rfl) Try.call11 ?_ ?_ ?_ ?_
         rotate_left 3
         · (go_simp; with_reducible rfl)
         · ((first
             | (with_reducible refine (dom_is a b d _ ha hb HD.out).mono ?_)
             | (with_reducible refine (dom_is ⟨15, 65535⟩ a true _ top_ok ha HT.out).mono ?_)
             | (with_reducible refine (dom_is a ⟨0, 0⟩ true _ ha zero_ok HZ.out).mono ?_))
            rintro e w' ⟨rfl, hk⟩
            refine ⟨?_, HS.out _ (hKc.trans hk)⟩
            with_reducible rfl)
         · (simp only [Act.put, List.setIfInBounds_toArray, List.set_cons_zero, List.set_cons_succ]; with_reducible rfl)
         clear hKc
         intro w2 hw2
         have hKc := hw2.1
         clear hw2)
      | (refine seq_callv (f := 13) (args := ?_) (v := ?_) (a' := ?_) (by rfl) (by rfl) (by rfl) Try.call13 ?_ ?_ ?_ ?_
         rotate_left 3
         · (go_simp; with_reducible rfl)
         · ((with_reducible refine (join_any _ _ _ (by assumption) (by assumption)).mono ?_)
            rintro e w' ⟨rfl, hk⟩
            refine ⟨?_, HS.out _ (hKc.trans hk)⟩
            with_reducible rfl)
         · (simp only [Act.put, List.setIfInBounds_toArray, List.set_cons_zero, List.set_cons_succ]; with_reducible rfl)
         clear hKc
         intro w2 hw2
         have hKc := hw2.1
         clear hw2)
      | (refine seq_callv (f := 15) (args := ?_) (v := ?_) (a' := ?_) (by rfl) (by rfl) (by rfl) Try.call15 ?_ ?_ ?_ ?_
         rotate_left 3
         · (go_simp; with_reducible rfl)
         · ((with_reducible refine (meet_any _ _ _ (by assumption) (by assumption)).mono ?_)
            rintro e w' ⟨rfl, hk⟩
            refine ⟨?_, HS.out _ (hKc.trans hk)⟩
            with_reducible rfl)
         · (simp only [Act.put, List.setIfInBounds_toArray, List.set_cons_zero, List.set_cons_succ]; with_reducible rfl)
         clear hKc
         intro w2 hw2
         have hKc := hw2.1
         clear hw2)
      | (refine seq_callv (f := 17) (args := ?_) (v := ?_) (a' := ?_) (by rfl) (by rfl) (by rfl) Try.call17 ?_ ?_ ?_ ?_
         rotate_left 3
         · (go_simp; with_reducible rfl)
         · ((with_reducible refine (check_is a _ _ HC.out).mono ?_)
            rintro e w' ⟨rfl, hk⟩
            refine ⟨?_, HS.out _ (hKc.trans hk)⟩
            with_reducible rfl)
         · (simp only [Act.put, List.setIfInBounds_toArray, List.set_cons_zero, List.set_cons_succ]; with_reducible rfl)
         clear hKc
         intro w2 hw2
         have hKc := hw2.1
         clear hw2)
      | (refine seq_callv (f := 18) (args := ?_) (v := ?_) (a' := ?_) (by rfl) (by rfl) (by rfl) Try.call18 ?_ ?_ ?_ ?_
         rotate_left 3
         · (go_simp; with_reducible rfl)
         · ((with_reducible refine (number_any _ _ (by assumption)).mono ?_)
            rintro e w' ⟨rfl, hk⟩
            refine ⟨?_, HS.out _ (hKc.trans hk)⟩
            with_reducible rfl)
         · (simp only [Act.put, List.setIfInBounds_toArray, List.set_cons_zero, List.set_cons_succ]; with_reducible rfl)
         clear hKc
         intro w2 hw2
         have hKc := hw2.1
         clear hw2)
      | (refine seq_callv (f := 20) (args := ?_) (v := ?_) (a' := ?_) (by rfl) (by rfl) (by rfl) Try.call20 ?_ ?_ ?_ ?_
         rotate_left 3
         · (go_simp; with_reducible rfl)
         · ((first
             | (with_reducible refine (less_is a b _ _ ha hb HL.out).mono ?_)
             | (with_reducible refine (less_is b a _ _ hb ha HM.out).mono ?_))
            rintro e w' ⟨rfl, hk⟩
            refine ⟨?_, HS.out _ (hKc.trans hk)⟩
            with_reducible rfl)
         · (simp only [Act.put, List.setIfInBounds_toArray, List.set_cons_zero, List.set_cons_succ]; with_reducible rfl)
         clear hKc
         intro w2 hw2
         have hKc := hw2.1
         clear hw2)
      | (refine seq_skip (a' := ?_) (HS.out _ hKc) (by rfl) ?_ ?_
         rotate_left
         · (simp only [Act.put, List.setIfInBounds_toArray, List.set_cons_zero, List.set_cons_succ]; with_reducible rfl)))
    refine seq_nil ?_
    go_wp2
    go_ret
    exact ⟨rfl, hK.trans hKc⟩

theorem LabelBits_std (z0 z1 : Lb) (w : World) (h0 : z0.ok) (h1 : z1.ok) :
    Calls Try.prog 7 #[.agg #[.int .u8 z0.lv, .int .u16 z0.ct], .agg #[.int .u8 z1.lv, .int .u16 z1.ct]] w fun e w' => e = .returned (.bool true) ∧ Below w.heap.size w w' := by
  refine bits_core z0 z1 (chk z0) (dm ⟨15, 65535⟩ z0) (decide (nm z0 < nm z1)) (decide (nm z1 < nm z0)) w h0 h1 (Lib.hid rfl) (Lib.hid rfl) (Lib.hid rfl) (Lib.hid rfl) ⟨?_, ?_⟩
  · rcases chk_two z0 with h | h
    · exact .inl ⟨h, dm_top h0 h⟩
    · exact .inr h
  · by_cases h : nm z0 < nm z1
    · exact .inl ⟨by simpa using h, by simp; omega⟩
    · exact .inr (by simpa using h)
end Go.Proofs.Ytjhakgnjodocpab
