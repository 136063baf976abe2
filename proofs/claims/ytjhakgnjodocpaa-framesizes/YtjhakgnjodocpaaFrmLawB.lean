/- The walk of FrameSizes. -/
import Derived.Test.YtjhakgnjodocpaaFrmMath
import Derived.Test.YtjhakgnjodocpaaSeq
import Derived.Test.YtjhakgnjodocpaaArr2
import Derived.OpenShut
namespace Go.Proofs.Ytjhakgnjodocpaa
open Go.RowKit

/-- The two bytes ahead, where they lie. -/
theorem frm_cells {w : World} {B b off n c : Nat} {xs : List Int} (h : By w B (some ⟨b, off, none⟩) (n + 2) c (frm xs)) (hx : xs.length = n) :
    w.cell? ⟨b, off, none⟩ = some (.int .u8 ((n : Int) / 256 % 256)) ∧ w.cell? ⟨b, off + 1, none⟩ = some (.int .u8 ((n : Int) % 256)) := by
  obtain ⟨b', off', e, -, hc⟩ := h.lies.2 (by omega)
  cases e
  have h0 := hc 0 (by omega)
  have h1 := hc 1 (by omega)
  rw [vals_getD _ _ _ (by rw [frm_length]; omega), frm_two, hx] at h0 h1
  exact ⟨h0, h1⟩

set_option maxRecDepth 100000 in
set_option maxHeartbeats 2000000 in
theorem sizes_core (A : Option Addr) (n c : Nat) (xs : List Int) (A2 : Option Addr) (m c2 : Nat) (zs : List Int) (w : World) (hy : By w w.heap.size A n c xs) (hz : By w w.heap.size A2 m c2 zs) (hbx : Byt xs) (hbz : Byt zs) (hn : n ≤ 1024) (hm : m ≤ 100) :
    Calls Try.prog 7 #[.slice A n c, .slice A2 m c2] w fun e w' => e = .returned (.bool true) ∧ Keep w w' := by
  obtain ⟨i0, hi, hz0, hz1, hz2⟩ := info_parts infoU8
  have hxl := hy.len
  have hzl := hz.len
  have hd1 : decide (1024 < (n : Int)) = false := by simp; omega
  have hd2 : decide (100 < (m : Int)) = false := by simp; omega
  have HY := Lib.hid hy
  have HZ := Lib.hid hz
  have HX := Lib.hid hxl
  have HZL := Lib.hid hzl
  clear hy hz hxl hzl
  go_enter Try.func7, Try.ntmps7
  go_wp2_with (first
    | (go_at_call 9; refine (alive_any _).mono ?_; rintro e w1 ⟨rfl, hk1⟩))
  have hy1 := HY.out.keep hk1 (Nat.le_refl _)
  have HY1 := Lib.hid hy1
  clear hy1
  refine (wrap_yes A n c xs w1 w.heap.size hk1.size HY1.out hn).mono ?_
  rintro e w2 ⟨v2, rfl, hr2, hk2⟩
  have hfl : (frm xs).length = n + 2 := by rw [frm_length, HX.out]; omega
  rw [hfl] at hr2
  obtain ⟨A3, c3, rfl, hy3⟩ := By.of_row hr2
  obtain ⟨b3, off3, rfl, hb3, hcell3⟩ := hy3.lies.2 (by omega)
  have hcap3 := hy3.cap
  have HY3 := Lib.hid hy3
  have HFL := Lib.hid hfl
  clear hcell3 hb3
  clear hy3 hfl
  have hk12 := hk1.trans hk2
  have hs12 := hk12.size
  go_wp2_with (first
    | (at_builtin; refine wpList_append_from rfl _ _ 22 rfl w2.heap.size 5 i0 (.int .u8 0) 1 Try.underlying22 hi hz0 hz1 hz2 rfl (.slice (some ⟨w2.heap.size, 0, none⟩) 0 0) 0 [] rfl (World.ownsRow_made w2 #[] 0 (Nat.le_refl _) (Nat.zero_le _) rfl) (w2.heap.size) (some ⟨b3, off3, none⟩) (n + 2) c3 (vals .u8 (frm xs)) rfl (HY3.out.keep ((Keep.refl w2).alloc _) (Nat.le_refl _)).lies HY3.out.nil (vals_one _ _) (by unfold maxLen; omega) (by omega) (by simp) ?_; intro A4 c4 w4 hown4 hgrow4 hat4; have hk4 : Keep w2 w4 := Only.keep ((Keep.refl w2).alloc _) ((Only.refl (fun q => q = w2.heap.size) _).grown hgrow4 (fun q _ e => (Option.some.inj (show some w2.heap.size = some q from e)).symm)) (fun q e => Nat.le_of_eq e.symm); rw [Nat.zero_add, List.nil_append] at hown4; rw [Nat.zero_add]; have hs4 := hk4.size; have HZ4 := Lib.hid (HZ.out.keep (hk12.trans hk4) (Nat.le_refl _)); have HO4 := Lib.hid hown4; have HR4 := Lib.hid (fun q hq => (hown4.lt q hq).1); clear hown4 hgrow4 hat4)
    | (at_builtin; refine wpList_append_from rfl _ _ 22 rfl w2.heap.size 5 i0 (.int .u8 0) 1 Try.underlying22 hi hz0 hz1 hz2 rfl (.slice A4 (n + 2) c4) (n + 2) (vals .u8 (frm xs)) rfl HO4.out (w.heap.size) A2 m c2 (vals .u8 zs) rfl HZ4.out.lies HZ4.out.nil (vals_one _ _) (by unfold maxLen; omega) (by omega) hs4 ?_; intro A5 c5 w5 hown5 hgrow5 hat5; have hk5 : Keep w2 w5 := Only.keep hk4 ((Only.refl (fun q => w2.heap.size ≤ q) _).grown hgrow5 (fun q _ e => HR4.out q e)) (fun q e => e); rw [← vals_append] at hown5; clear hgrow5 hat5))
  have hy5 : By w5 w5.heap.size A5 (n + 2 + m) c5 (frm xs ++ zs) := ⟨by
    obtain ⟨_, _, e, h⟩ := Lies.of_row hown5
    cases e
    exact h, row_cap hown5, row_nil hown5⟩
  have hcut := frm_cut xs zs (by rw [HX.out]; exact hn)
  have n6 := next_yes A5 (n + 2 + m) c5 (frm xs ++ zs) w5 w5.heap.size (Nat.le_refl _) hy5 (fun x hx => by rcases List.mem_append.1 hx with h | h; exact frm_byt hbx x h; exact hbz x h) (by omega) hcut
  rw [frm_hd xs zs (by rw [HX.out]; exact hn), frm_body, frm_rest] at n6
  have N6 := Lib.hid n6
  clear hy5 hcut n6 hown5 HO4 HR4 HZ4
  refine N6.out.mono ?_
  rintro e w6 ⟨v6, v7, rfl, hr6, hr7, hk6⟩
  rw [HX.out] at hr6
  rw [HZL.out] at hr7
  obtain ⟨A6, c6, rfl, hy6⟩ := By.of_row hr6
  obtain ⟨A7, c7, rfl, hy7⟩ := By.of_row hr7
  have hk26 := hk5.trans hk6
  have HY36 := Lib.hid (HY3.out.keep hk26 (Nat.le_refl _))
  have hs26 := hk26.size
  have HY6 := Lib.hid hy6
  have HY7 := Lib.hid hy7
  have hk06 := hk12.trans hk26
  have hi1 : (0 : Int) ≤ (n : Int) + 1 := by omega
  have hi2 : (n : Int) + 1 ≤ (c3 : Int) := by omega
  have hcut7 := frm_short xs (by rw [HX.out]; exact hn)
  rw [HX.out, Nat.add_comm 1 n] at hcut7
  have hy7p : By w6 w2.heap.size (some ⟨b3, off3, none⟩) (n + 1) c3 ((frm xs).take (n + 1)) := ⟨by
    have := HY36.out.lies.part 0 (n + 1) (by omega)
    rw [vals_part, List.drop_zero] at this
    exact this, by omega, fun h => by cases h⟩
  have n7 := next_no _ _ _ _ w6 w2.heap.size hs26 hy7p (fun x hx => frm_byt hbx x (List.mem_of_mem_take hx)) (by omega) (by rw [hcut7]; decide)
  rw [hcut7] at n7
  have N7 := Lib.hid n7
  clear hy6 hy7 hr6 hr7 hk4 hk5 hk6 N6 hk1 hk2 HY1 hy7p hcut7 n7
  go_wp2_with fail
  refine N7.out.mono ?_
  rintro e W0 ⟨rfl, hk7⟩
  have HF := Lib.hid (HY36.out.keep hk7 hs26)
  have HB6 := Lib.hid hk7.size
  have HB2 := Lib.hid (Nat.le_trans hs26 hk7.size)
  have hy6 := HY6.out.keep hk7 (Nat.le_refl _)
  have hy7 := HY7.out.keep hk7 (Nat.le_refl _)
  have hy0 := HY.out.keep (hk06.trans hk7) (Nat.le_refl _)
  have hz0 := HZ.out.keep (hk06.trans hk7) (Nat.le_refl _)
  have HKK := Lib.hid (hk06.trans hk7)
  have HB0 := Lib.hid (hk06.trans hk7).size
  have HL6 := Lib.hid hy6
  have HL7 := Lib.hid hy7
  have HL0 := Lib.hid hy0
  have HM0 := Lib.hid hz0
  clear hy6 hy7 hy0 hz0 HY6 HY7 HY36 N7 hk7 hk06 HY3
  go_wp2_with fail
  obtain ⟨a0, ha0⟩ : ∃ a0 : Int, (n : Int) / 256 % 256 = a0 := ⟨_, rfl⟩
  obtain ⟨a1, ha1⟩ : ∃ a1 : Int, (n : Int) % 256 = a1 := ⟨_, rfl⟩
  have g1 : (0 : Int) ≤ a0 := by omega
  have g2 : a0 < 256 := by omega
  have g3 : (0 : Int) ≤ a1 := by omega
  have g4 : a1 < 256 := by omega
  have g5 : a0 * 256 + a1 = (n : Int) := by omega
  have q1 : IntKind.i64.wrap ((n : Int) + 2) = (n : Int) + 2 := by rw [IntKind.wrap_i64]; omega
  have q2 : IntKind.i64.wrap a0 = a0 := by rw [IntKind.wrap_i64]; omega
  have q3 : IntKind.i64.wrap a1 = a1 := by rw [IntKind.wrap_i64]; omega
  have q4 : IntKind.i64.wrap (a0 * 256) = a0 * 256 := by rw [IntKind.wrap_i64]; omega
  have q5 : IntKind.i64.wrap (n : Int) = (n : Int) := by rw [IntKind.wrap_i64]; omega
  have q6 : (0 : Int) < (n : Int) + 2 := by omega
  have q7 : (1 : Int) < (n : Int) + 2 := by omega
  have HS := Lib.hid (show ∀ w', Keep W0 w' → Keep W0 w' ∧ (w'.cell? ⟨b3, off3, none⟩ = some (.int .u8 a0) ∧ w'.cell? ⟨b3, off3 + 1, none⟩ = some (.int .u8 a1)) from
    fun w' h => ⟨h, by
      have := frm_cells (HF.out.keep h HB2.out) HX.out
      rw [ha0, ha1] at this
      exact this⟩)
  clear ha0 ha1
  have hKc : Keep W0 W0.drew := (Keep.refl _).drew
  refine seq_region (S := fun w' => Keep W0 w' ∧ (w'.cell? ⟨b3, off3, none⟩ = some (.int .u8 a0) ∧ w'.cell? ⟨b3, off3 + 1, none⟩ = some (.int .u8 a1))) [⟨0, 64, 281474976710656⟩, ⟨1, 281474976710656, 562949953421312⟩, ⟨2, 562949953421312, 1125899906842624⟩, ⟨4, 1125899906842656, 2251799813685248⟩, ⟨12, 3377699720527872, 4503599627370496⟩, ⟨4, 1125899906842625, 9007199254740992⟩, ⟨36, 10133099161583616, 18014398509481984⟩, ⟨68, 19140298416324608, 36028797018963968⟩, ⟨148, 41658296553177088, 72057594037927936⟩, ⟨260, 73183493944770560, 144115188075855872⟩, ⟨516, 144115188075855872, 288230376151711744⟩, ⟨1024, 288230376151711776, 576460752303423488⟩, ⟨3072, 864691128455135232, 1152921504606846976⟩, ⟨5120, 1441151880758558720, 2305843009213693952⟩, ⟨9216, 2594073385365405696, 4611686018427387904⟩, ⟨17408, 4899916394579099648, 9223372036854775808⟩, ⟨1024, 288230376151711776, 18446744073709551616⟩, ⟨66560, 18734974449861263360, 36893488147419103232⟩, ⟨132096, 37181718523570814976, 73786976294838206464⟩, ⟨263168, 74075206670989918208, 147573952589676412928⟩, ⟨558080, 157085555002682900480, 295147905179352825856⟩, ⟨1024, 288230376151711745, 590295810358705651712⟩, ⟨2098176, 590584040734857363456, 1180591620717411303424⟩, ⟨5243904, 1476027756272915841024, 2361183241434822606848⟩, ⟨8389632, 2361471471810974318592, 4722366482869645213696⟩, ⟨16778240, 4722366482869645213696, 9444732965739290427392⟩, ⟨33554432, 9444732965739290427520, 18889465931478580854784⟩, ⟨33554432, 9444732965739290427393, 37778931862957161709568⟩, ⟨234881024, 66113130760175032991744, 75557863725914323419136⟩, ⟨301989888, 85002596691653613846528, 151115727451828646838272⟩, ⟨805306368, 151115727451828646838272, 302231454903657293676544⟩, ⟨1073741824, 302231454903657293676800, 604462909807314587353088⟩, ⟨1073741824, 302231454903657293676546, 1208925819614629174706176⟩, ⟨7516192768, 2115620184325601055735808, 2417851639229258349412352⟩, ⟨9663676416, 2720083094132915643088896, 4835703278458516698824704⟩, ⟨25769803776, 4835703278458516698824704, 9671406556917033397649408⟩, ⟨34359738368, 9671406556917033397649920, 19342813113834066795298816⟩, ⟨103079215104, 29014219670751100192948224, 38685626227668133590597632⟩, ⟨171798691840, 48357032784585166988247040, 77371252455336267181195264⟩, ⟨309237645312, 77371252455336267181195264, 154742504910672534362390528⟩, ⟨549755813888, 154742504910672534362394624, 309485009821345068724781056⟩, ⟨1649267441664, 464227514732017603087171584, 618970019642690137449562112⟩, ⟨2748779069440, 773712524553362671811952640, 1237940039285380274899124224⟩, ⟨8796093022207, 1237940039285380274899124224, 16⟩] [(0, false), (1, false), (2, false), (3, false), (4, false), (5, false), (6, false), (7, false), (8, false), (9, false), (10, false), (11, false), (12, false), (13, false), (14, false), (15, false), (16, false), (17, false), (18, false), (19, false), (20, false), (21, false), (22, false), (23, false), (24, false), (25, false), (26, false), (27, false), (28, true), (29, false), (30, false), (31, false), (32, false), (33, true), (34, false), (35, false), (36, false), (37, false), (38, false), (39, false), (40, false), (41, false), (42, false), (43, false)] rfl (by kernel_rfl) (by kernel_rfl) (fun _ _ d _ _ h => by cases d <;> exact h) (HS.out _ hKc) ?_
  simp only [rowsOf, rowAt, gslot, List.map_cons, List.map_nil, List.getElem?_toArray, List.getElem?_cons_zero, List.getElem?_cons_succ, Option.bind_some]
  repeat (first
    | (refine seq_take (v := ?_) (a' := ?_) (by rfl) ?_ ?_ ?_
       rotate_left 2
       · (intro w hSw; obtain ⟨-, hSw⟩ := hSw; go_split_ands; go_simp; with_reducible rfl)
       · (simp only [Act.put, List.setIfInBounds_toArray, List.set_cons_zero, List.set_cons_succ]; with_reducible rfl))
    | (refine seq_callv (f := 14) (args := ?_) (v := ?_) (a' := ?_) (by rfl) (by rfl) (by rfl) Try.call14 ?_ ?_ ?_ ?_
       rotate_left 3
       · (go_simp; with_reducible rfl)
       · ((first
           | (with_reducible refine (same_is A6 n c6 A n c xs xs _ _ _ (HL6.out.keep hKc HB6.out).lies (HL0.out.keep hKc HB0.out).lies rfl).mono ?_)
           | (with_reducible refine (same_is A7 m c7 A2 m c2 zs zs _ _ _ (HL7.out.keep hKc HB6.out).lies (HM0.out.keep hKc HB0.out).lies rfl).mono ?_))
          rintro e w' ⟨rfl, rfl⟩
          refine ⟨?_, HS.out _ hKc⟩
          with_reducible rfl)
       · (simp only [Act.put, List.setIfInBounds_toArray, List.set_cons_zero, List.set_cons_succ]; with_reducible rfl)
       clear hKc
       intro w2 hw2
       have hKc := hw2.1
       clear hw2)
    | (refine seq_skip (a' := ?_) (HS.out _ hKc) (by rfl) ?_ ?_
       rotate_left
       · (simp only [Act.put, List.setIfInBounds_toArray, List.set_cons_zero, List.set_cons_succ]; with_reducible rfl)))
  refine seq_nil ?_
  go_wp2
  go_ret
  exact ⟨rfl, HKK.out.trans hKc⟩

set_option maxHeartbeats 1000000 in
theorem sizes_long (A : Option Addr) (n c : Nat) (A2 : Option Addr) (m c2 : Nat) (w : World) (h : decide (1024 < (n : Int)) = true ∨ (decide (1024 < (n : Int)) = false ∧ decide (100 < (m : Int)) = true)) :
    Calls Try.prog 7 #[.slice A n c, .slice A2 m c2] w fun e w' => e = .returned (.bool true) ∧ Keep w w' := by
  rcases h with h | ⟨h, h2⟩
  all_goals
    go_enter Try.func7, Try.ntmps7
    go_wp2_with (go_at_call 9; refine (alive_any _).mono ?_; rintro e w0 ⟨rfl, hk0⟩)
    go_ret
    exact ⟨rfl, hk0⟩

theorem FrameSizes_std (a0 : Option Addr) (l0 c0 : Nat) (z0 : List Int) (a1 : Option Addr) (l1 c1 : Nat) (z1 : List Int) (w : World) (h0 : Arr .u8 w a0 l0 z0) (hc : l0 ≤ c0 ∧ (a0 = none → c0 = 0)) (h1 : Arr .u8 w a1 l1 z1) (hc1 : l1 ≤ c1 ∧ (a1 = none → c1 = 0)) :
    Calls Try.prog 7 #[.slice a0 l0 c0, .slice a1 l1 c1] w fun e w' => e = .returned (.bool true) ∧ Below w.heap.size w w' := by
  by_cases hn : l0 ≤ 1024
  · by_cases hm : l1 ≤ 100
    · exact sizes_core a0 l0 c0 z0 a1 l1 c1 z1 w ⟨h0.2.1, hc.1, hc.2⟩ ⟨h1.2.1, hc1.1, hc1.2⟩ (fun x hx => by have := bounds_u8 (h0.2.2 x hx); omega) (fun x hx => by have := bounds_u8 (h1.2.2 x hx); omega) hn hm
    · exact sizes_long a0 l0 c0 a1 l1 c1 w (.inr ⟨by simp; omega, by simp; omega⟩)
  · exact sizes_long a0 l0 c0 a1 l1 c1 w (.inl (by simp; omega))
end Go.Proofs.Ytjhakgnjodocpaa
