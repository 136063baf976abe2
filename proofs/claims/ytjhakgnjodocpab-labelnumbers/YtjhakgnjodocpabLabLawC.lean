/- The walk of LabelNumbers. -/
import Derived.Test.YtjhakgnjodocpabLabArg
import Derived.Test.YtjhakgnjodocpabLabRef
import Derived.Test.YtjhakgnjodocpabSeq
namespace Go.Proofs.Ytjhakgnjodocpab
open Go.RowKit

theorem and_20 (n : Int) (h0 : 0 ≤ n) (h1 : n < 18446744073709551616) : bits BinOp.and IntKind.u64 n 1048575 = n % 1048576 := by
  rw [u64_and _ _ h0 h1 (by omega) (by omega)]
  have := Nat.and_two_pow_sub_one_eq_mod n.toNat 20
  rw [show (1048575 : Int).toNat = 2 ^ 20 - 1 from rfl, this]
  omega
theorem and_15 (m : Int) : ∃ k : Nat, k < 16 ∧ bits BinOp.and IntKind.i64 m 15 = (k : Int) := by
  have e1 : (BitVec.ofInt 64 m &&& BitVec.ofInt 64 15).toNat = (m % 18446744073709551616).toNat % 2 ^ 4 := by
    rw [BitVec.toNat_and, show (BitVec.ofInt 64 15).toNat = 2 ^ 4 - 1 from rfl, BitVec.toNat_ofInt, Nat.and_two_pow_sub_one_eq_mod]
    rfl
  refine ⟨(m % 18446744073709551616).toNat % 2 ^ 4, Nat.mod_lt _ (by decide), ?_⟩
  show IntKind.i64.wrap ((BitVec.ofInt 64 m &&& BitVec.ofInt 64 15).toNat : Int) = _
  rw [e1]
  have e2 : ((m % 18446744073709551616).toNat % 2 ^ 4 : Nat) < 2 ^ 4 := Nat.mod_lt _ (by decide)
  generalize ((m % 18446744073709551616).toNat % 2 ^ 4 : Nat) = y at *
  simp only [IntKind.wrap, IntKind.bits, IntKind.signed]
  simp
  omega

/-- A label with a category more, and one that is higher. -/
theorem more_facts {l : Lb} {t : Int} (hl : l.ok) (h0 : 0 ≤ t) (h1 : t ≤ 65535) : (⟨l.lv, orC l.ct t⟩ : Lb).ok ∧ dm ⟨l.lv, orC l.ct t⟩ l = true ∧ dm l ⟨l.lv, orC l.ct t⟩ = eqL ⟨l.lv, orC l.ct t⟩ l ∧ jn ⟨l.lv, orC l.ct t⟩ l = ⟨l.lv, orC l.ct t⟩ := by
  have hb := orC_bd hl.2.1 hl.2.2 h0 h1
  have hok : (⟨l.lv, orC l.ct t⟩ : Lb).ok := ⟨hl.1, hb.1, hb.2⟩
  have hj : jn ⟨l.lv, orC l.ct t⟩ l = ⟨l.lv, orC l.ct t⟩ := lb_ext (by simp only [jn]; omega) (by
    simp only [jn]
    rw [orC_comm, orC_assoc, orC_self hl.2.1])
  have hd := dm_iff.2 hj
  refine ⟨hok, hd, ?_, hj⟩
  rw [Bool.eq_iff_iff, eqL_iff]
  exact ⟨fun h => dm_anti hd h, fun h => by rw [h]; exact dm_self hl⟩
theorem higher_facts {l : Lb} (hl : l.ok) (h : l.lv ≤ 15) : (⟨l.lv + 1, l.ct⟩ : Lb).ok ∧ dm ⟨l.lv + 1, l.ct⟩ l = true ∧ mt ⟨l.lv + 1, l.ct⟩ l = l ∧ decide (nm l < nm ⟨l.lv + 1, l.ct⟩) = true := by
  have h1 := hl.1.1
  refine ⟨⟨⟨by dsimp only; omega, by dsimp only; omega⟩, hl.2⟩, dm_iff.2 (lb_ext (by simp only [jn]; omega) (orC_self hl.2.1)), lb_ext (by simp only [mt]; omega) (andC_self hl.2.1), ?_⟩
  apply decide_eq_true
  show l.lv * 65536 + l.ct < (l.lv + 1) * 65536 + l.ct
  omega

set_option maxRecDepth 100000 in
set_option maxHeartbeats 4000000 in
theorem numbers_core (n c : Int) (k : Nat) (N : Int) (w : World) (hN0 : 0 ≤ N) (hN1 : N < 1048576) (hk16 : k < 16) (en : bits BinOp.and IntKind.u64 n 1048575 = N) (ec : bits BinOp.and IntKind.i64 c 15 = (k : Int)) :
    Calls Try.prog 5 #[.int .u64 n, .int .i64 c] w fun e w' => e = .returned (.bool true) ∧ Keep w w' := by
  have q1 := equalIn_lb
  have HF := from_any N
  rw [show frE N = 0 from if_pos hN1] at HF
  have HFr := Lib.hid HF
  clear HF
  have hlv : (frL N).lv = N / 65536 := by unfold frL; rw [if_pos hN1]
  have hct : (frL N).ct = N % 65536 := by unfold frL; rw [if_pos hN1]
  have hnm : nm (frL N) = N := by unfold nm; rw [hlv, hct]; omega
  have okl : (frL N).ok := ⟨⟨by rw [hlv]; omega, by rw [hlv]; omega⟩, by rw [hct]; omega, by rw [hct]; omega⟩
  have hck : chk (frL N) = 0 := if_pos (by rw [hlv]; omega)
  have hl15 : (frL N).lv ≤ 15 := by rw [hlv]; omega
  clear hlv hct
  generalize frL N = l at *
  have ht := twoP_le (show k ≤ 15 by omega)
  have ht0 := twoP_pos k
  rw [show twoP 15 = 32768 from rfl] at ht
  obtain ⟨okM, hd1, hd2, hj⟩ := more_facts (t := twoP k) okl (by omega) (by omega)
  obtain ⟨okH, hd3, hm, hl⟩ := higher_facts okl hl15
  have hor : bits BinOp.or IntKind.u16 l.ct (IntKind.u16.wrap (2 ^ k)) = orC l.ct (twoP k) := by
    rw [show ((2 : Int) ^ k) = twoP k from by simp [twoP], wrap16 _ (by omega) (by omega)]
    exact bits_or16 _ _ okl.2.1 okl.2.2 (by omega) (by omega)
  clear ht ht0
  generalize orC l.ct (twoP k) = mc at *
  obtain ⟨v, hv⟩ : ∃ v, eqL ⟨l.lv, mc⟩ l = v := ⟨_, rfl⟩
  rw [hv] at hd2
  have e1 : eq4 l.lv mc l.lv l.ct = v := hv
  have e2 : eq4 (jn ⟨l.lv, mc⟩ l).lv (jn ⟨l.lv, mc⟩ l).ct l.lv mc = true := eqL_iff.2 hj
  have e3 : eq4 (mt ⟨l.lv + 1, l.ct⟩ l).lv (mt ⟨l.lv + 1, l.ct⟩ l).ct l.lv l.ct = true := eqL_iff.2 hm
  have HD1 := Lib.hid hd1
  have HD2 := Lib.hid hd2
  have HD3 := Lib.hid hd3
  have HL := Lib.hid hl
  clear hd1 hd2 hd3 hl hm hj hv
  have HNM := Lib.hid hnm
  clear hnm
  obtain ⟨⟨l0, l1⟩, l2, l3⟩ := id okl
  go_enter Try.func5, Try.ntmps5
  go_wp2_with fail
  refine (alive_any _).mono ?_
  rintro e w1 ⟨rfl, hk1⟩
  go_wp2_with fail
  refine (HFr.out _ hN0).mono ?_
  rintro e w2 ⟨rfl, hk2⟩
  have hK := (hk1.trans hk2).alloc (.cells #[.int .u8 l.lv, .int .u16 l.ct] 24)
  have hL := LbAt.new w2 l
  clear hk1 hk2
  obtain ⟨a0, a1⟩ := hL.cells
  go_wp2_with fail
  have hn1 := number_any l (w2.alloc (.cells #[.int .u8 l.lv, .int .u16 l.ct] 24)) okl
  rw [HNM.out] at hn1
  refine hn1.mono ?_
  rintro e w3 ⟨rfl, hk3⟩
  clear hn1
  have hK := hK.trans hk3
  have hL := hL.keep hk3
  clear a0 a1 hk3
  obtain ⟨a0, a1⟩ := hL.cells
  go_wp2_with fail
  refine (check_is l 0 _ hck).mono ?_
  rintro e w4 ⟨rfl, hk4⟩
  have hK := hK.trans hk4
  have hL := hL.keep hk4
  clear a0 a1 hk4
  obtain ⟨a0, a1⟩ := hL.cells
  have hl4 := hL.lt
  have hz : (0 : Int) ≤ (k : Int) := by omega
  go_wp2_with fail
  go_region_with (fail)
  go_wp2_with fail
  have hM : LbAt ((w4.alloc (.cells #[.int .u8 l.lv, .int .u16 mc] 24)).alloc (.cells #[.int .u8 (l.lv + 1), .int .u16 l.ct] 24)).drew w4.heap.size ⟨l.lv, mc⟩ := (LbAt.two w4 ⟨l.lv, mc⟩ ⟨l.lv + 1, l.ct⟩).1
  have hH : LbAt ((w4.alloc (.cells #[.int .u8 l.lv, .int .u16 mc] 24)).alloc (.cells #[.int .u8 (l.lv + 1), .int .u16 l.ct] 24)).drew (w4.heap.size + 1) ⟨l.lv + 1, l.ct⟩ := (LbAt.two w4 ⟨l.lv, mc⟩ ⟨l.lv + 1, l.ct⟩).2
  have hk5 : Keep w4 ((w4.alloc (.cells #[.int .u8 l.lv, .int .u16 mc] 24)).alloc (.cells #[.int .u8 (l.lv + 1), .int .u16 l.ct] 24)).drew := (((Keep.refl w4).alloc _).alloc _).drew
  have hL := hL.keep hk5
  have hK := hK.trans hk5
  generalize ((w4.alloc (.cells #[.int .u8 l.lv, .int .u16 mc] 24)).alloc (.cells #[.int .u8 (l.lv + 1), .int .u16 l.ct] 24)).drew = W0 at *
  clear hk5 a0 a1
  have HS := Lib.hid (show ∀ w', Keep W0 w' → Keep W0 w' ∧ ((w'.cell? ⟨w2.heap.size, 0, none⟩ = some (.int .u8 l.lv) ∧ w'.cell? ⟨w2.heap.size, 1, none⟩ = some (.int .u16 l.ct)) ∧ (w'.cell? ⟨w4.heap.size, 0, none⟩ = some (.int .u8 l.lv) ∧ w'.cell? ⟨w4.heap.size, 1, none⟩ = some (.int .u16 mc)) ∧ (w'.cell? ⟨w4.heap.size + 1, 0, none⟩ = some (.int .u8 (l.lv + 1)) ∧ w'.cell? ⟨w4.heap.size + 1, 1, none⟩ = some (.int .u16 l.ct))) from
    fun w' h => ⟨h, (hL.keep h).cells, (hM.keep h).cells, (hH.keep h).cells⟩)
  clear hL hM hH
  have hKc : Keep W0 W0.drew := (Keep.refl _).drew
  refine seq_region (S := fun w' => Keep W0 w' ∧ ((w'.cell? ⟨w2.heap.size, 0, none⟩ = some (.int .u8 l.lv) ∧ w'.cell? ⟨w2.heap.size, 1, none⟩ = some (.int .u16 l.ct)) ∧ (w'.cell? ⟨w4.heap.size, 0, none⟩ = some (.int .u8 l.lv) ∧ w'.cell? ⟨w4.heap.size, 1, none⟩ = some (.int .u16 mc)) ∧ (w'.cell? ⟨w4.heap.size + 1, 0, none⟩ = some (.int .u8 (l.lv + 1)) ∧ w'.cell? ⟨w4.heap.size + 1, 1, none⟩ = some (.int .u16 l.ct)))) [⟨0, 128, 17592186044416⟩, ⟨0, 32, 35184372088832⟩, ⟨3, 52776558133248, 70368744177664⟩, ⟨4, 70368744177664, 140737488355328⟩, ⟨8, 140737488355360, 281474976710656⟩, ⟨8, 140737488355456, 562949953421312⟩, ⟨56, 985162418487296, 1125899906842624⟩, ⟨8, 140737488355456, 2251799813685248⟩, ⟨8, 140737488355360, 4503599627370496⟩, ⟨392, 6896136929411072, 9007199254740992⟩, ⟨584, 10273836649938944, 18014398509481984⟩, ⟨1032, 18155135997837312, 36028797018963968⟩, ⟨2112, 36028797018963968, 72057594037927936⟩, ⟨4096, 72057594037928192, 144115188075855872⟩, ⟨4096, 72057594037927968, 288230376151711744⟩, ⟨28672, 504403158265495552, 576460752303423488⟩, ⟨36864, 648518346341351424, 1152921504606846976⟩, ⟨98304, 1152921504606846976, 2305843009213693952⟩, ⟨131072, 2305843009213693984, 4611686018427387904⟩, ⟨131072, 2305843009213694208, 9223372036854775808⟩, ⟨917504, 16140901064495857664, 18446744073709551616⟩, ⟨1179648, 20752587082923245568, 36893488147419103232⟩, ⟨3145728, 36893488147419103232, 73786976294838206464⟩, ⟨4194304, 73786976294838206592, 147573952589676412928⟩, ⟨4194304, 73786976294838206496, 295147905179352825856⟩, ⟨29360128, 516508834063867445248, 590295810358705651712⟩, ⟨4194304, 73786976294838206592, 1180591620717411303424⟩, ⟨104857600, 1844674407370955161600, 2361183241434822606848⟩, ⟨138412032, 2434970217729660813312, 4722366482869645213696⟩, ⟨301989888, 4722366482869645213696, 9444732965739290427392⟩, ⟨536870912, 9444732965739290427648, 18889465931478580854784⟩, ⟨536870912, 9444732965739290427424, 37778931862957161709568⟩, ⟨3758096384, 66113130760175032991744, 75557863725914323419136⟩, ⟨536870912, 9444732965739290427424, 151115727451828646838272⟩, ⟨13421772800, 236118324143482260684800, 302231454903657293676544⟩, ⟨17716740096, 311676187869396584103936, 604462909807314587353088⟩, ⟨68719476735, 604462909807314587353088, 16⟩] [(0, false), (1, false), (2, true), (3, false), (4, false), (5, false), (7, false), (8, false), (9, false), (6, true), (10, false), (11, false), (12, false), (13, false), (14, false), (15, true), (16, false), (17, false), (18, false), (19, false), (20, true), (21, false), (22, false), (23, false), (24, false), (26, false), (25, true), (27, false), (28, false), (29, false), (30, false), (31, false), (33, false), (32, true), (34, false), (35, false), (36, false)] rfl (by kernel_rfl) (by kernel_rfl) (fun _ _ d _ _ h => by cases d <;> exact h) (HS.out _ hKc) ?_
  simp only [rowsOf, rowAt, gslot, List.map_cons, List.map_nil, List.getElem?_toArray, List.getElem?_cons_zero, List.getElem?_cons_succ, Option.bind_some]
  repeat (first
    | (refine seq_take (v := ?_) (a' := ?_) (by rfl) ?_ ?_ ?_
       rotate_left 2
       · (intro w hSw; obtain ⟨-, hSw⟩ := hSw; go_split_ands; go_simp; with_reducible rfl)
       · (simp only [Act.put, List.setIfInBounds_toArray, List.set_cons_zero, List.set_cons_succ]; with_reducible rfl))
    | (refine seq_callv (f := 11) (args := ?_) (v := ?_) (a' := ?_) (by rfl) (by rfl) (by rfl) Try.call11 ?_ ?_ ?_ ?_
       rotate_left 3
       · (go_simp; with_reducible rfl)
       · ((first
           | (with_reducible refine (dom_is ⟨l.lv, mc⟩ l true _ okM okl HD1.out).mono ?_)
           | (with_reducible refine (dom_is l ⟨l.lv, mc⟩ v _ okl okM HD2.out).mono ?_)
           | (with_reducible refine (dom_is ⟨l.lv + 1, l.ct⟩ l true _ okH okl HD3.out).mono ?_))
          rintro e w' ⟨rfl, hk⟩
          refine ⟨?_, HS.out _ (hKc.trans hk)⟩
          with_reducible rfl)
       · (simp only [Act.put, List.setIfInBounds_toArray, List.set_cons_zero, List.set_cons_succ]; with_reducible rfl)
       clear hKc
       intro w2 hw2
       have hKc := hw2.1
       clear hw2)
    | (refine seq_callv (f := 13) (args := ?_) (v := ?_) (a' := ?_) (by rfl) (by rfl) (by rfl) Try.call13 ?_ ?_ ?_ ?_
       rotate_left 3
       · (go_simp; with_reducible rfl)
       · ((with_reducible refine (join_any ⟨l.lv, mc⟩ l _ okM okl).mono ?_)
          rintro e w' ⟨rfl, hk⟩
          refine ⟨?_, HS.out _ (hKc.trans hk)⟩
          with_reducible rfl)
       · (simp only [Act.put, List.setIfInBounds_toArray, List.set_cons_zero, List.set_cons_succ]; with_reducible rfl)
       clear hKc
       intro w2 hw2
       have hKc := hw2.1
       clear hw2)
    | (refine seq_callv (f := 15) (args := ?_) (v := ?_) (a' := ?_) (by rfl) (by rfl) (by rfl) Try.call15 ?_ ?_ ?_ ?_
       rotate_left 3
       · (go_simp; with_reducible rfl)
       · ((with_reducible refine (meet_any ⟨l.lv + 1, l.ct⟩ l _ okH okl).mono ?_)
          rintro e w' ⟨rfl, hk⟩
          refine ⟨?_, HS.out _ (hKc.trans hk)⟩
          with_reducible rfl)
       · (simp only [Act.put, List.setIfInBounds_toArray, List.set_cons_zero, List.set_cons_succ]; with_reducible rfl)
       clear hKc
       intro w2 hw2
       have hKc := hw2.1
       clear hw2)
    | (refine seq_callv (f := 20) (args := ?_) (v := ?_) (a' := ?_) (by rfl) (by rfl) (by rfl) Try.call20 ?_ ?_ ?_ ?_
       rotate_left 3
       · (go_simp; with_reducible rfl)
       · ((with_reducible refine (less_is l ⟨l.lv + 1, l.ct⟩ true _ okl okH HL.out).mono ?_)
          rintro e w' ⟨rfl, hk⟩
          refine ⟨?_, HS.out _ (hKc.trans hk)⟩
          with_reducible rfl)
       · (simp only [Act.put, List.setIfInBounds_toArray, List.set_cons_zero, List.set_cons_succ]; with_reducible rfl)
       clear hKc
       intro w2 hw2
       have hKc := hw2.1
       clear hw2)
    | (refine seq_skip (a' := ?_) (HS.out _ hKc) (by rfl) ?_ ?_
       rotate_left
       · (simp only [Act.put, List.setIfInBounds_toArray, List.set_cons_zero, List.set_cons_succ]; with_reducible rfl)))
  refine seq_nil ?_
  go_wp2
  go_ret
  exact ⟨rfl, hK.trans hKc⟩

theorem LabelNumbers_std (a0 : Int) (w0 : (Lit.int .u64 a0).wf = true) (a1 : Int) (_w1 : (Lit.int .i64 a1).wf = true) (w : World) :
    Calls Try.prog 5 #[.int .u64 a0, .int .i64 a1] w fun e w' => e = .returned (.bool true) ∧ Below w.heap.size w w' := by
  have h := bounds_u64 w0
  obtain ⟨k, hk, ek⟩ := and_15 a1
  exact numbers_core a0 a1 k (a0 % 1048576) w (by omega) (by omega) hk (and_20 a0 (by omega) (by omega)) ek
end Go.Proofs.Ytjhakgnjodocpab
