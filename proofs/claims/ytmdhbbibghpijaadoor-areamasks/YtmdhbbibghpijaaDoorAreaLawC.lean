/- AreaMasks: an area of a mask has its spans in its labels alone; of two masks the union is that of both, the meet that of what both have. -/
import Derived.Test.YtmdhbbibghpijaaDoorAreaArg2
import Derived.Test.YtmdhbbibghpijaaDoorAreaTells
import Derived.Deep.CutRange
namespace Go.Proofs.YtmdhbbibghpijaaDoor
open Go.RowKit

theorem ofInt_nat (a : Nat) : BitVec.ofInt 32 (a : Int) = BitVec.ofNat 32 a := by rw [BitVec.ofInt_natCast]
theorem u32_of (v : BitVec 32) : IntKind.u32.wrap (v.toNat : Int) = (v.toNat : Int) := by
  have := v.isLt
  rw [IntKind.wrap_u32]
  omega
theorem u32_and2 (a b : Nat) (ha : a < 4294967296) (hb : b < 4294967296) : bits BinOp.and IntKind.u32 (a : Int) (b : Int) = ((a &&& b : Nat) : Int) := by
  show IntKind.u32.wrap ((BitVec.ofInt 32 (a : Int) &&& BitVec.ofInt 32 (b : Int)).toNat : Int) = _
  rw [u32_of, ofInt_nat, ofInt_nat, BitVec.toNat_and, BitVec.toNat_ofNat, BitVec.toNat_ofNat, Nat.mod_eq_of_lt (by omega), Nat.mod_eq_of_lt (by omega)]
/-- The bits of the one that the other has not. -/
def lessN (a b : Nat) : Nat := (BitVec.ofNat 32 a &&& ~~~ BitVec.ofNat 32 b).toNat
theorem u32_less2 (a b : Nat) : bits BinOp.andNot IntKind.u32 (a : Int) (b : Int) = ((lessN a b : Nat) : Int) := by
  show IntKind.u32.wrap ((BitVec.ofInt 32 (a : Int) &&& ~~~ BitVec.ofInt 32 (b : Int)).toNat : Int) = _
  rw [u32_of, ofInt_nat, ofInt_nat]
  rfl
theorem lessN_lt (a b : Nat) : lessN a b < 4294967296 := (BitVec.ofNat 32 a &&& ~~~ BitVec.ofNat 32 b).isLt
theorem lessN_test (a b : Nat) (ha : a < 4294967296) (hb : b < 4294967296) (i : Nat) (hi : i < 32) : (lessN a b).testBit i = (a.testBit i && !b.testBit i) := by
  unfold lessN
  rw [← BitVec.getElem_eq_testBit_toNat _ _ hi]
  simp
  rw [BitVec.getElem_eq_testBit_toNat, BitVec.getElem_eq_testBit_toNat, BitVec.toNat_ofNat, BitVec.toNat_ofNat, Nat.mod_eq_of_lt (by omega), Nat.mod_eq_of_lt (by omega)]
theorem bit_at {d i : Nat} (hd : d < 4294967296) : bits BinOp.and IntKind.u32 ((d : Int) / 2 ^ i) 1 = if d.testBit i then 1 else 0 := by
  have e : (d : Int) / 2 ^ i = ((d / 2 ^ i : Nat) : Int) := by simp
  have h1 : d / 2 ^ i ≤ d := Nat.div_le_self _ _
  rw [e, show (1 : Int) = ((1 : Nat) : Int) from rfl, u32_and2 _ 1 (by omega) (by omega), Nat.and_one_is_mod, Nat.testBit_eq_decide_div_mod_eq]
  by_cases h : d / 2 ^ i % 2 = 1
  · simp [h]
  · have : d / 2 ^ i % 2 = 0 := by omega
    simp [this]
theorem and_15 (m : Int) : bits BinOp.and IntKind.i64 m 15 = (((m % 16).toNat : Nat) : Int) := by
  have e1 : (BitVec.ofInt 64 m &&& BitVec.ofInt 64 15).toNat = (m % 18446744073709551616).toNat % 2 ^ 4 := by
    rw [BitVec.toNat_and, BitVec.toNat_ofInt, BitVec.toNat_ofInt, ← Nat.and_two_pow_sub_one_eq_mod]
    rfl
  show IntKind.i64.wrap ((BitVec.ofInt 64 m &&& BitVec.ofInt 64 15).toNat : Int) = _
  rw [e1, IntKind.wrap_i64]
  omega
theorem and_31 {L : Nat} (h : L < 16) : bits BinOp.and IntKind.i64 (L : Int) 31 = (L : Int) := by
  rcases (show L = 0 ∨ L = 1 ∨ L = 2 ∨ L = 3 ∨ L = 4 ∨ L = 5 ∨ L = 6 ∨ L = 7 ∨ L = 8 ∨ L = 9 ∨ L = 10 ∨ L = 11 ∨ L = 12 ∨ L = 13 ∨ L = 14 ∨ L = 15 by omega) with rfl | rfl | rfl | rfl | rfl | rfl | rfl | rfl | rfl | rfl | rfl | rfl | rfl | rfl | rfl | rfl <;> rfl
theorem cell_new (w : World) (lb k : Int) : ∀ X, Keep (w.alloc (.cells #[.int .i64 lb, .int .u32 k] 25)) X → X.cell? ⟨w.heap.size, 0, none⟩ = some (.int .i64 lb) ∧ X.cell? ⟨w.heap.size, 1, none⟩ = some (.int .u32 k) := by
  have hb := World.alloc_heap_new w (.cells #[.int .i64 lb, .int .u32 k] 25)
  have hlt : w.heap.size < (w.alloc (.cells #[.int .i64 lb, .int .u32 k] 25)).heap.size := by simp
  generalize w.alloc (.cells #[.int .i64 lb, .int .u32 k] 25) = W at *
  intro X hX
  have := (hX.block _ hlt).trans hb
  exact ⟨by simp [World.cell?, this], by simp [World.cell?, this]⟩
/-- The area of a mask. -/
def oF (K m : Nat) (h : Int → Bool) : Nat → Int → Bool := fun i k => decide (i < K) && m.testBit i && h k
theorem oF_or {K x y z : Nat} {h : Int → Bool} (e : x ||| y = z) (i : Nat) (k : Int) : (oF K x h i k || oF K y h i k) = oF K z h i k := by
  subst e
  unfold oF
  rw [Nat.testBit_or]
  generalize decide (i < K) = a
  generalize x.testBit i = b
  generalize y.testBit i = c
  generalize h k = d
  cases a <;> cases b <;> cases c <;> cases d <;> rfl
theorem oF_and {K x y z : Nat} {h : Int → Bool} (e : x &&& y = z) (i : Nat) (k : Int) : (oF K x h i k && oF K y h i k) = oF K z h i k := by
  subst e
  unfold oF
  rw [Nat.testBit_and]
  generalize decide (i < K) = a
  generalize x.testBit i = b
  generalize y.testBit i = c
  generalize h k = d
  cases a <;> cases b <;> cases c <;> cases d <;> rfl
theorem oF_less {K x y z : Nat} {h : Int → Bool} (hx : x < 4294967296) (hy : y < 4294967296) (hK : K ≤ 16) (e : lessN x y = z) (i : Nat) (k : Int) : (oF K x h i k && !oF K y h i k) = oF K z h i k := by
  subst e
  unfold oF
  by_cases hi : i < K
  · rw [lessN_test x y hx hy i (by omega)]
    generalize decide (i < K) = a
    generalize x.testBit i = b
    generalize y.testBit i = c
    generalize h k = d
    cases a <;> cases b <;> cases c <;> cases d <;> rfl
  · rw [decide_eq_false hi]
    rfl
theorem of_o {w : World} {A : Option Addr} {l c : Nat} {h : Int → Bool} (m K : Nat) (hA : Bg w A l c h) (hl : l ≤ 20) (hm : m < 4294967296) (hK : 1 ≤ K ∧ K ≤ 16) (hT : Tab w) :
    Calls Tryd.prog 15 #[.int .i64 (K : Int), .int .u32 m, .slice A l c] w (OutA w K 20 (oF K m h)) := by
  refine (of_a (N := 20) (K : Int) m K hA hl (by decide) hm (by omega) hT).mono ?_
  rintro e w' ⟨A', rfl, hk, ha⟩
  exact ⟨A', K, rfl, hk, ha, Nat.le_refl _⟩
theorem make_len {w : World} {A : Option Addr} {l c : Nat} {h : Int → Bool} (hA : Bg w A l c h) (hl : l ≤ 20) :
    Calls Tryd.prog 29 #[.slice A l c] w fun e w' => ∃ A' m c', e = .returned (.slice A' m c') ∧ Keep w w' ∧ (0 < m ↔ ∃ k, h k = true) := by
  obtain ⟨zs, hz, hq⟩ := hA
  refine (make_any A l c zs w hz.prs hz.nil (by omega) hz.ok).mono ?_
  rintro e w' ⟨hk, A', c', r, rfl, -, -, -, -, hs⟩
  refine ⟨A', r.length, c', rfl, hk, ?_⟩
  have h2 := set_some (hs.congr (P' := fun k => h k = true) (fun k => by rw [← hasB_iff, hq k]))
  rw [← h2]
  exact ⟨fun h => ⟨_, List.getElem_mem h⟩, fun ⟨s, hs⟩ => List.length_pos_of_mem hs⟩
theorem mask_none {K x : Nat} {h : Int → Bool} (hn : ¬ ∃ k, h k = true) : MaskOf (oF K x h) 0 := by
  refine ⟨by decide, fun i => ⟨fun hi => by simp at hi, ?_⟩⟩
  rintro ⟨_, k, hk⟩
  unfold oF at hk
  simp at hk
  exact absurd ⟨k, hk.2⟩ hn
theorem mask_some {K x : Nat} {h : Int → Bool} (hK : K ≤ 16) (hy : ∃ k, h k = true) : MaskOf (oF K x h) (x % 2 ^ K) := by
  have h16 : 2 ^ K ≤ 2 ^ 16 := Nat.pow_le_pow_right (by decide) hK
  have hlt : x % 2 ^ K < 2 ^ K := Nat.mod_lt _ (Nat.two_pow_pos K)
  refine ⟨Nat.lt_of_lt_of_le hlt (Nat.le_trans h16 (by decide)), fun i => ?_⟩
  rw [Nat.testBit_mod_two_pow]
  unfold oF
  obtain ⟨k0, hk0⟩ := hy
  constructor
  · intro hb
    simp at hb
    exact ⟨by omega, k0, by simp [hb, hk0]⟩
  · rintro ⟨_, k, hk⟩
    simp at hk
    simp [hk]

set_option maxRecDepth 100000 in
set_option maxHeartbeats 16000000 in
theorem masks_few {w : World} {n : Int} {x y : Nat} {A : Option Addr} {l c : Nat} {h : Int → Bool} {lb key : Int} (hs : Bg w A l c h) (hl : l ≤ 20) (hx : x < 4294967296) (hy : y < 4294967296) (hT : Tab w) :
    Calls Tryd.prog 5 #[.int .i64 n, .int .u32 x, .int .u32 y, .slice A l c, .agg #[.int .i64 lb, .int .u32 key]] w fun e w' => e = .returned (.bool true) ∧ Keep w w' := by
  obtain ⟨r, hr⟩ : ∃ r : Nat, bits BinOp.and IntKind.i64 n 15 = (r : Int) ∧ r ≤ 15 := ⟨_, and_15 n, by omega⟩
  obtain ⟨hr, hr15⟩ := hr
  obtain ⟨K, hK⟩ : ∃ K : Nat, (1 : Int) + (r : Int) = (K : Int) := ⟨1 + r, by omega⟩
  have hK16 : 1 ≤ K ∧ K ≤ 16 := by omega
  have HK16 := Lib.hid hK16
  have hl20 : (l : Int) ≤ 20 := by omega
  obtain ⟨v, hv⟩ : ∃ v, fz (oF K x h) lb key = v := ⟨_, rfl⟩
  obtain ⟨M, hM⟩ : ∃ M, MaskOf (oF K x h) M := by
    by_cases hy : ∃ k, h k = true
    · exact ⟨_, mask_some hK16.2 hy⟩
    · exact ⟨_, mask_none hy⟩
  have HM := Lib.hid hM
  have HV := Lib.hid hv
  have HX := Lib.hid (And.intro hx hy)
  have hor := u32_or x y hx hy
  have hand := u32_and2 x y hx hy
  have hles := u32_less2 x y
  obtain ⟨xo, hxo⟩ : ∃ z, x ||| y = z := ⟨_, rfl⟩
  obtain ⟨xa, hxa⟩ : ∃ z, x &&& y = z := ⟨_, rfl⟩
  obtain ⟨xl, hxl⟩ : ∃ z, lessN x y = z := ⟨_, rfl⟩
  rw [hxo] at hor
  rw [hxa] at hand
  rw [hxl] at hles
  have HB := Lib.hid (And.intro hxo (And.intro hxa hxl))
  have k0 := (Keep.refl w).alloc (.cells #[.int .i64 lb, .int .u32 key] 25)
  have HC := Lib.hid (cell_new w lb key)
  have Hs := Lib.hid (hs.keep k0)
  have HT := Lib.hid (hT.below hT.pos k0)
  have HK0 := Lib.hid k0
  have hKc := Keep.refl (w.alloc (.cells #[.int .i64 lb, .int .u32 key] 25))
  clear hs hT k0 hx hy hxo hxa hxl hM hv hK16
  go_enter Tryd.func5, Tryd.ntmps5
  go_wp2_with fail
  generalize w.alloc (.cells #[.int .i64 lb, .int .u32 key] 25) = W at *
  go_wp2_with fail
  go_at_call 8
  refine (alive_any _ HT.out).mono ?_
  rintro e w101 ⟨rfl, hk⟩
  replace HT := Lib.hid (HT.out.below HT.out.pos hk)
  replace Hs := Lib.hid (Hs.out.keep hk)
  replace hKc := hKc.trans hk
  clear hk
  go_wp2_with fail
  refine (of_o x K Hs.out hl HX.out.1 HK16.out HT.out).mono ?_
  rintro e w102 ⟨Aa, ca, rfl, hk, ha, hca⟩
  replace HT := Lib.hid (HT.out.below HT.out.pos hk)
  replace Hs := Lib.hid (Hs.out.keep hk)
  replace hKc := hKc.trans hk
  clear hk
  have Ha := Lib.hid ha
  clear ha
  go_wp2_with fail
  refine (of_o y K Hs.out hl HX.out.2 HK16.out HT.out).mono ?_
  rintro e w103 ⟨Ab, cb, rfl, hk, hb, hcb⟩
  replace HT := Lib.hid (HT.out.below HT.out.pos hk)
  replace Hs := Lib.hid (Hs.out.keep hk)
  replace Ha := Lib.hid (Ha.out.keep hk)
  replace hKc := hKc.trans hk
  clear hk
  have Hb := Lib.hid hb
  clear hb
  go_upto_region 7 with fail
  go_cut [13] from 31 to 54 (fun s13 wx => s13 = .bool v ∧ Keep w103 wx)
  case first =>
    obtain ⟨c0, c1⟩ := HC.out _ hKc
    have hKr := Keep.refl w103
    by_cases hneg : lb < 0
    · obtain rfl : v = false := by rw [← HV.out]; exact if_pos hneg
      go_wp2_with fail
      go_meet
      exact ⟨rfl, hKr⟩
    · obtain ⟨L, rfl⟩ : ∃ L : Nat, lb = L := ⟨lb.toNat, by omega⟩
      have hv := HV.out
      rw [fz_nat] at hv
      unfold oF at hv
      by_cases hLK : L < K
      · have hLi : (L : Int) < (K : Int) := by omega
        have h31 := and_31 (L := L) (by have := HK16.out; omega)
        have hbt := bit_at (i := L) HX.out.1
        rw [decide_eq_true hLK] at hv
        cases hbb : x.testBit L
        · rw [hbb] at hbt hv
          obtain rfl : v = false := hv.symm
          have hbt : bits BinOp.and IntKind.u32 ((x : Int) / 2 ^ L) 1 = 0 := hbt
          clear hneg hLK hbb hv
          go_wp2_with fail
          go_meet
          exact ⟨rfl, hKr⟩
        · rw [hbb] at hbt hv
          have hbt : bits BinOp.and IntKind.u32 ((x : Int) / 2 ^ L) 1 = 1 := hbt
          have HV2 := Lib.hid (show h key = v from hv)
          clear hneg hLK hbb hv
          go_wp2_with fail
          go_at_call 28
          refine (has_o key Hs.out (by omega)).mono ?_
          rw [HV2.out]
          rintro e wh ⟨rfl, hk⟩
          go_wp2_with fail
          go_meet
          exact ⟨rfl, hk⟩
      · have hLi : ¬ (L : Int) < (K : Int) := by omega
        rw [decide_eq_false hLK] at hv
        obtain rfl : v = false := hv.symm
        clear hLK hv
        go_wp2_with fail
        go_meet
        exact ⟨rfl, hKr⟩
  case rest =>
    obtain ⟨rfl, hk⟩ := hcut
    replace HT := Lib.hid (HT.out.below HT.out.pos hk)
    replace Hs := Lib.hid (Hs.out.keep hk)
    replace Ha := Lib.hid (Ha.out.keep hk)
    replace Hb := Lib.hid (Hb.out.keep hk)
    replace hKc := hKc.trans hk
    clear hk
    go_upto_if 58 with (go_at_call 29; refine (make_len Hs.out hl).mono ?_; rintro e wm ⟨Am, mm, cm, rfl, hk, hmk⟩)
    replace HT := Lib.hid (HT.out.below HT.out.pos hk)
    replace Hs := Lib.hid (Hs.out.keep hk)
    replace Ha := Lib.hid (Ha.out.keep hk)
    replace Hb := Lib.hid (Hb.out.keep hk)
    replace hKc := hKc.trans hk
    clear hk
    have HMK := Lib.hid hmk
    clear hmk
    go_cut [14] from 55 to 63 (fun s14 wx => s14 = .int .u32 M ∧ wx = wm)
    case first =>
      by_cases hm0 : 0 < mm
      · have hmi : (0 : Int) < (mm : Int) := by omega
        obtain rfl : M = x % 2 ^ K := HM.out.unique (mask_some HK16.out.2 (HMK.out.1 hm0)) (fun _ _ => Iff.rfl)
        obtain ⟨P2, hP2⟩ : ∃ P2 : Nat, P2 = 2 ^ K := ⟨_, rfl⟩
        have hp : 0 < P2 ∧ P2 ≤ 65536 := by
          rw [hP2]
          exact ⟨Nat.two_pow_pos K, Nat.le_trans (Nat.pow_le_pow_right (by decide) HK16.out.2) (by decide)⟩
        have hsh : IntKind.u32.wrap ((2 : Int) ^ K) = (P2 : Int) := by
          rw [show ((2 : Int) ^ K) = ((2 ^ K : Nat) : Int) by simp, ← hP2, IntKind.wrap_u32]
          omega
        have hmk : bits BinOp.and IntKind.u32 (x : Int) ((P2 : Int) - 1) = ((x % 2 ^ K : Nat) : Int) := by
          rw [show (P2 : Int) - 1 = ((P2 - 1 : Nat) : Int) by omega, u32_and2 x (P2 - 1) HX.out.1 (by omega), hP2, Nat.and_two_pow_sub_one_eq_mod]
        generalize x % 2 ^ K = M at *
        clear hP2
        go_wp2_with fail
        go_meet
        exact ⟨rfl, rfl⟩
      · have hmi : ¬ (0 : Int) < (mm : Int) := by omega
        obtain rfl : M = 0 := HM.out.unique (mask_none (fun h => hm0 (HMK.out.2 h))) (fun _ _ => Iff.rfl)
        go_wp2_with fail
        go_meet
        exact ⟨rfl, rfl⟩
    case rest =>
      obtain ⟨rfl, rfl⟩ := hcut
      have ⟨c0, c1⟩ := HC.out _ hKc
      clear HC
      go_wp2_with fail
      go_at_call 20
      refine (has_v lb key v Ha.out.area (by decide) HV.out).mono ?_
      rintro e w104 ⟨rfl, hk⟩
      replace HT := Lib.hid (HT.out.below HT.out.pos hk)
      replace Hs := Lib.hid (Hs.out.keep hk)
      replace Ha := Lib.hid (Ha.out.keep hk)
      replace Hb := Lib.hid (Hb.out.keep hk)
      replace hKc := hKc.trans hk
      clear hk
      clear c0 c1
      go_wp2_with fail
      go_at_call 27
      refine (mask_v Ha.out.area (by decide) (by have := HK16.out; omega) hca HM.out).mono ?_
      rintro e w105 ⟨rfl, hk⟩
      replace HT := Lib.hid (HT.out.below HT.out.pos hk)
      replace Hs := Lib.hid (Hs.out.keep hk)
      replace Ha := Lib.hid (Ha.out.keep hk)
      replace Hb := Lib.hid (Hb.out.keep hk)
      replace hKc := hKc.trans hk
      clear hk
      go_wp2_with fail
      go_at_call 12
      refine (union_n K (Nat.max_self K) Ha.out.area Hb.out.area (by decide) (by decide) (by have := HK16.out; omega)).mono ?_
      rintro e w106 ⟨Apxo, cpxo, rfl, hk, hpxo, hcpxo⟩
      replace HT := Lib.hid (HT.out.below HT.out.pos hk)
      replace Hs := Lib.hid (Hs.out.keep hk)
      replace Ha := Lib.hid (Ha.out.keep hk)
      replace Hb := Lib.hid (Hb.out.keep hk)
      replace hKc := hKc.trans hk
      clear hk
      have Hpxo := Lib.hid hpxo
      clear hpxo
      go_wp2_with fail
      go_at_call 15
      refine (of_o xo K Hs.out hl (by rw [← HB.out.1]; exact Nat.or_lt_two_pow (n := 32) HX.out.1 HX.out.2) HK16.out HT.out).mono ?_
      rintro e w107 ⟨Aqxo, cqxo, rfl, hk, hqxo, hcqxo⟩
      replace HT := Lib.hid (HT.out.below HT.out.pos hk)
      replace Hs := Lib.hid (Hs.out.keep hk)
      replace Ha := Lib.hid (Ha.out.keep hk)
      replace Hb := Lib.hid (Hb.out.keep hk)
      replace Hpxo := Lib.hid (Hpxo.out.keep hk)
      replace hKc := hKc.trans hk
      clear hk
      have Hqxo := Lib.hid hqxo
      clear hqxo
      go_wp2_with fail
      go_at_call 24
      refine (same_a true Hpxo.out.area Hqxo.out.area (by decide) (by decide) (by have := HK16.out; omega) ⟨fun _ i k => oF_or HB.out.1 i k, fun _ => rfl⟩).mono ?_
      rintro e w108 ⟨rfl, hk⟩
      replace HT := Lib.hid (HT.out.below HT.out.pos hk)
      replace Hs := Lib.hid (Hs.out.keep hk)
      replace Ha := Lib.hid (Ha.out.keep hk)
      replace Hb := Lib.hid (Hb.out.keep hk)
      replace Hpxo := Lib.hid (Hpxo.out.keep hk)
      replace Hqxo := Lib.hid (Hqxo.out.keep hk)
      replace hKc := hKc.trans hk
      clear hk
      clear Hpxo
      clear Hqxo
      go_wp2_with fail
      go_at_call 13
      refine (meet_n K (Nat.max_self K) Ha.out.area Hb.out.area (by decide) (by decide) (by have := HK16.out; omega)).mono ?_
      rintro e w109 ⟨Apxa, cpxa, rfl, hk, hpxa, hcpxa⟩
      replace HT := Lib.hid (HT.out.below HT.out.pos hk)
      replace Hs := Lib.hid (Hs.out.keep hk)
      replace Ha := Lib.hid (Ha.out.keep hk)
      replace Hb := Lib.hid (Hb.out.keep hk)
      replace hKc := hKc.trans hk
      clear hk
      have Hpxa := Lib.hid hpxa
      clear hpxa
      go_wp2_with fail
      go_at_call 15
      refine (of_o xa K Hs.out hl (by rw [← HB.out.2.1]; exact Nat.lt_of_le_of_lt Nat.and_le_left HX.out.1) HK16.out HT.out).mono ?_
      rintro e w110 ⟨Aqxa, cqxa, rfl, hk, hqxa, hcqxa⟩
      replace HT := Lib.hid (HT.out.below HT.out.pos hk)
      replace Hs := Lib.hid (Hs.out.keep hk)
      replace Ha := Lib.hid (Ha.out.keep hk)
      replace Hb := Lib.hid (Hb.out.keep hk)
      replace Hpxa := Lib.hid (Hpxa.out.keep hk)
      replace hKc := hKc.trans hk
      clear hk
      have Hqxa := Lib.hid hqxa
      clear hqxa
      go_wp2_with fail
      go_at_call 24
      refine (same_a true Hpxa.out.area Hqxa.out.area (by decide) (by decide) (by have := HK16.out; omega) ⟨fun _ i k => oF_and HB.out.2.1 i k, fun _ => rfl⟩).mono ?_
      rintro e w111 ⟨rfl, hk⟩
      replace HT := Lib.hid (HT.out.below HT.out.pos hk)
      replace Hs := Lib.hid (Hs.out.keep hk)
      replace Ha := Lib.hid (Ha.out.keep hk)
      replace Hb := Lib.hid (Hb.out.keep hk)
      replace Hpxa := Lib.hid (Hpxa.out.keep hk)
      replace Hqxa := Lib.hid (Hqxa.out.keep hk)
      replace hKc := hKc.trans hk
      clear hk
      clear Hpxa
      clear Hqxa
      go_wp2_with fail
      go_at_call 14
      refine (minus_n K (Nat.max_self K) Ha.out.area Hb.out.area (by decide) (by decide) (by have := HK16.out; omega)).mono ?_
      rintro e w112 ⟨Apxl, cpxl, rfl, hk, hpxl, hcpxl⟩
      replace HT := Lib.hid (HT.out.below HT.out.pos hk)
      replace Hs := Lib.hid (Hs.out.keep hk)
      replace Ha := Lib.hid (Ha.out.keep hk)
      replace Hb := Lib.hid (Hb.out.keep hk)
      replace hKc := hKc.trans hk
      clear hk
      have Hpxl := Lib.hid hpxl
      clear hpxl
      go_wp2_with fail
      go_at_call 15
      refine (of_o xl K Hs.out hl (by rw [← HB.out.2.2]; exact lessN_lt _ _) HK16.out HT.out).mono ?_
      rintro e w113 ⟨Aqxl, cqxl, rfl, hk, hqxl, hcqxl⟩
      replace HT := Lib.hid (HT.out.below HT.out.pos hk)
      replace Hs := Lib.hid (Hs.out.keep hk)
      replace Ha := Lib.hid (Ha.out.keep hk)
      replace Hb := Lib.hid (Hb.out.keep hk)
      replace Hpxl := Lib.hid (Hpxl.out.keep hk)
      replace hKc := hKc.trans hk
      clear hk
      have Hqxl := Lib.hid hqxl
      clear hqxl
      go_wp2_with fail
      go_at_call 24
      refine (same_a true Hpxl.out.area Hqxl.out.area (by decide) (by decide) (by have := HK16.out; omega) ⟨fun _ i k => oF_less HX.out.1 HX.out.2 HK16.out.2 HB.out.2.2 i k, fun _ => rfl⟩).mono ?_
      rintro e w114 ⟨rfl, hk⟩
      replace HT := Lib.hid (HT.out.below HT.out.pos hk)
      replace Hs := Lib.hid (Hs.out.keep hk)
      replace Ha := Lib.hid (Ha.out.keep hk)
      replace Hb := Lib.hid (Hb.out.keep hk)
      replace Hpxl := Lib.hid (Hpxl.out.keep hk)
      replace Hqxl := Lib.hid (Hqxl.out.keep hk)
      replace hKc := hKc.trans hk
      clear hk
      clear Hpxl
      clear Hqxl
      go_wp2
      go_ret
      exact ⟨rfl, HK0.out.trans hKc⟩

set_option maxRecDepth 100000 in
set_option maxHeartbeats 4000000 in
theorem masks_long {w : World} {n : Int} {x y : Int} {A : Option Addr} {l c : Nat} {lb key : Int} (hl : 20 < l) (hT : Tab w) :
    Calls Tryd.prog 5 #[.int .i64 n, .int .u32 x, .int .u32 y, .slice A l c, .agg #[.int .i64 lb, .int .u32 key]] w fun e w' => e = .returned (.bool true) ∧ Keep w w' := by
  have hl20 : (20 : Int) < (l : Int) := by omega
  have k0 := (Keep.refl w).alloc (.cells #[.int .i64 lb, .int .u32 key] 25)
  have HT := Lib.hid (hT.below hT.pos k0)
  have HK0 := Lib.hid k0
  clear hT k0 hl
  go_enter Tryd.func5, Tryd.ntmps5
  go_wp2_with fail
  generalize w.alloc (.cells #[.int .i64 lb, .int .u32 key] 25) = W at *
  go_wp2_with fail
  go_at_call 8
  refine (alive_any _ HT.out).mono ?_
  rintro e w1 ⟨rfl, hk⟩
  go_wp2
  go_ret
  exact ⟨rfl, HK0.out.trans hk⟩

theorem AreaMasks_std (n : Int) (_wn : (Lit.int .i64 n).wf = true) (x : Int) (wx : (Lit.int .u32 x).wf = true) (y : Int) (wy : (Lit.int .u32 y).wf = true) (A : Option Addr) (l c : Nat) (zs : List Sp) (z : Int × Int) (w : World) (ra : SpArg w A l c zs) (_rz : (Lit.int .i64 z.1).wf = true ∧ (Lit.int .u32 z.2).wf = true) (hT : Tab w) :
    Calls Tryd.prog 5 #[.int .i64 n, .int .u32 x, .int .u32 y, .slice A l c, .agg #[.int .i64 z.1, .int .u32 z.2]] w fun e w' => e = .returned (.bool true) ∧ Below w.heap.size w w' := by
  by_cases h : l ≤ 20
  · have b1 := bounds_u32 wx
    have b2 := bounds_u32 wy
    obtain ⟨x, rfl⟩ : ∃ q : Nat, x = q := ⟨x.toNat, by omega⟩
    obtain ⟨y, rfl⟩ : ∃ q : Nat, y = q := ⟨y.toNat, by omega⟩
    exact masks_few (Bg.of ra.2) h (by omega) (by omega) hT
  · exact masks_long (by omega) hT
end Go.Proofs.YtmdhbbibghpijaaDoor
