/- The document's own answers of layer 4: a category; Dominates. -/
import Derived.Test.YtknjekakncjbgabDoorLabDom
import Derived.Test.YtknjekakncjbgabDoorFitIntMath
namespace Go.Proofs.YtknjekakncjbgabDoor
open Go.RowKit

def bitI (n : Int) (i : Nat) : Int := n / twoP i % 2
theorem twoP_div (n : Int) (k : Nat) : n / twoP k / 2 = n / twoP (k + 1) := by
  rw [twoP_succ, Int.mul_comm, ← Int.ediv_ediv_of_nonneg (by have := twoP_pos k; omega)]
theorem bit_any (n : Int) (i : Nat) (w : World) (h0 : 0 ≤ n) (h1 : n < 18446744073709551616) (hi : i ≤ 64) :
    Calls Tryd.prog 32 #[.int .u64 n, .int .i64 i] w fun e w' => e = .returned (.int .u64 (bitI n i)) ∧ w = w' := by
  go_enter Tryd.func32, Tryd.ntmps32
  go_wp2
  go_loop [0, 5] (fun t k => ∃ j : Nat, j ≤ i ∧ k = .int .i64 j ∧ t = .int .u64 (n / twoP j)) (fun _ k => i - (intOf k).toNat)
  case atStart => exact ⟨0, by omega, rfl, by rw [show twoP 0 = 1 from rfl]; simp⟩
  case round =>
    obtain ⟨j, hj, rfl, rfl⟩ := hrel
    have d0 : 0 ≤ n / twoP j := Int.ediv_nonneg h0 (by have := twoP_pos j; omega)
    have d1 : n / twoP j ≤ n := Int.ediv_le_self _ h0
    have HD := Lib.hid (twoP_div n j)
    by_cases hlt : j < i
    · generalize n / twoP j = d at *
      go_wp2
      go_round
      case rel => exact ⟨j + 1, by omega, by go_num, by rw [← HD.out]⟩
      case measure => simp [intOf]; omega
    · obtain rfl : j = i := by omega
      have HB := Lib.hid (show bitI n j = n / twoP j % 2 from rfl)
      generalize n / twoP j = d at *
      go_wp2
      go_ret
      exact ⟨ret_int HB.out.symm, rfl⟩
theorem power_any (i : Nat) (w : World) (hi : i ≤ 63) :
    Calls Tryd.prog 27 #[.int .i64 i] w fun e w' => e = .returned (.int .u64 (twoP i)) ∧ w = w' := by
  go_enter Tryd.func27, Tryd.ntmps27
  go_wp2
  go_loop [3, 4] (fun t k => ∃ j : Nat, j ≤ i ∧ k = .int .i64 j ∧ t = .int .u64 (twoP j)) (fun _ k => i - (intOf k).toNat)
  case atStart => exact ⟨0, by omega, rfl, rfl⟩
  case round =>
    obtain ⟨j, hj, rfl, rfl⟩ := hrel
    by_cases hlt : j < i
    · have h0 := twoP_pos j
      have h1 := twoP_le (show j ≤ 62 by omega)
      rw [show twoP 62 = 4611686018427387904 from rfl] at h1
      have HS := Lib.hid (twoP_succ j)
      generalize twoP j = d at *
      go_wp2
      go_round
      case rel => exact ⟨j + 1, by omega, by go_num, by rw [HS.out]⟩
      case measure => simp [intOf]; omega
    · obtain rfl : j = i := by omega
      go_wp2
      go_ret
      exact ⟨rfl, rfl⟩

/-- The bit at a place. -/
def bt (x : Int) (i : Nat) : Bool := x.toNat.testBit i
theorem bitI_bt (x : Int) (i : Nat) (h : 0 ≤ x) : (bitI x i == 1) = bt x i := by
  obtain ⟨n, rfl⟩ := Int.eq_ofNat_of_zero_le h
  unfold bitI bt twoP
  rw [Int.toNat_natCast, Nat.testBit_eq_decide_div_mod_eq]
  rw [Bool.eq_iff_iff, beq_iff_eq, decide_eq_true_iff]
  omega
theorem has_any (a : Lb) (i : Nat) (v : Bool) (w : World) (ha : a.ok) (hi : i ≤ 16) (hv : bt a.ct i = v) :
    Calls Tryd.prog 31 #[.agg #[.int .u8 a.lv, .int .u16 a.ct], .int .i64 i] w fun e w' => e = .returned (.bool v) ∧ Keep w w' := by
  obtain ⟨⟨h1, h2⟩, h3, h4⟩ := ha
  have hb := (bitI_bt a.ct i h3).trans hv
  clear hv
  go_enter Tryd.func31, Tryd.ntmps31
  go_wp2_with (go_at_call 32; refine (bit_any _ _ _ h3 (by omega) (by omega)).mono ?_; rintro e w' ⟨rfl, rfl⟩)
  go_ret
  exact ⟨rfl, (Keep.refl w).alloc _⟩

theorem orC_sub {a b : Int} (ha : 0 ≤ a) : orC a b = a ↔ ∀ i, bt b i = true → bt a i = true := by
  unfold orC bt
  constructor
  · intro h i hb
    have h2 : a.toNat ||| b.toNat = a.toNat := by omega
    rw [← h2, Nat.testBit_or, hb, Bool.or_true]
  · intro h
    have : a.toNat ||| b.toNat = a.toNat := by
      apply Nat.eq_of_testBit_eq
      intro i
      rw [Nat.testBit_or]
      cases hb : b.toNat.testBit i
      · simp
      · rw [h i hb]; rfl
    omega
theorem bt_high {a : Int} (h : a ≤ 65535) (i : Nat) (hi : 16 ≤ i) : bt a i = false := by
  unfold bt
  apply Nat.testBit_lt_two_pow
  have : 2 ^ 16 ≤ 2 ^ i := Nat.pow_le_pow_right (by decide) hi
  omega
theorem dm_bits {a b : Lb} (ha : a.ok) (hb : b.ok) (h : ∀ i, i < 16 → bt b.ct i = true → bt a.ct i = true) : dm a b = decide (b.lv ≤ a.lv) := by
  have h2 : orC a.ct b.ct = a.ct := (orC_sub ha.2.1).2 (fun i hi => by
    by_cases hl : i < 16
    · exact h i hl hi
    · rw [bt_high hb.2.2 i (by omega)] at hi; cases hi)
  unfold dm eqL eq4 jn
  simp only [h2, beq_self_eq_true, Bool.and_true]
  rw [Bool.eq_iff_iff, beq_iff_eq, decide_eq_true_iff]
  omega
theorem dm_nobit {a b : Lb} (ha : a.ok) (i : Nat) (h : bt b.ct i = true) (h' : bt a.ct i = false) : dm a b = false := by
  cases hd : dm a b
  · rfl
  · have := congrArg Lb.ct (dm_iff.1 hd)
    rw [(orC_sub ha.2.1).1 this i h] at h'
    cases h'

theorem LbAt.lt {w : World} {b : Nat} {l : Lb} (h : LbAt w b l) : b < w.heap.size := (Array.getElem?_eq_some_iff.1 h).1
theorem LbAt.two (w : World) (a b : Lb) : LbAt ((w.alloc (.cells #[.int .u8 a.lv, .int .u16 a.ct] 25)).alloc (.cells #[.int .u8 b.lv, .int .u16 b.ct] 25)) w.heap.size a ∧
    LbAt ((w.alloc (.cells #[.int .u8 a.lv, .int .u16 a.ct] 25)).alloc (.cells #[.int .u8 b.lv, .int .u16 b.ct] 25)) (w.heap.size + 1) b := by
  refine ⟨(LbAt.new w a).keep ((Keep.refl _).alloc _), ?_⟩
  have := LbAt.new (w.alloc (.cells #[.int .u8 a.lv, .int .u16 a.ct] 25)) b
  rw [World.size_alloc] at this
  exact this

set_option maxHeartbeats 1000000 in
theorem rdom_any (a b : Lb) (w : World) (ha : a.ok) (hb : b.ok) :
    Calls Tryd.prog 26 #[.agg #[.int .u8 a.lv, .int .u16 a.ct], .agg #[.int .u8 b.lv, .int .u16 b.ct]] w fun e w' => e = .returned (.bool (dm a b)) ∧ Keep w w' := by
  obtain ⟨HA, HB⟩ := LbAt.two w a b
  have hk0 := ((Keep.refl w).alloc (.cells #[.int .u8 a.lv, .int .u16 a.ct] 25)).alloc (.cells #[.int .u8 b.lv, .int .u16 b.ct] 25)
  go_enter Tryd.func26, Tryd.ntmps26
  go_wp2_with fail
  go_loopw [5] (fun i wr => ∃ (j : Nat), j ≤ 16 ∧ i = .int .i64 j ∧ Hid (∀ k, k < j → bt b.ct k = true → bt a.ct k = true) ∧ LbAt wr w.heap.size a ∧ LbAt wr (w.heap.size + 1) b ∧ Keep w wr) (fun i _ => 16 - (intOf i).toNat)
  case atStart => exact ⟨0, Nat.zero_le _, rfl, Lib.hid (fun k hk => by omega), HA, HB, hk0⟩
  case round =>
    obtain ⟨j, hj, rfl, hle, ha1, hb1, hk⟩ := hrel
    obtain ⟨a0, a1⟩ := ha1.cells
    obtain ⟨b0, b1⟩ := hb1.cells
    by_cases hlt : j < 16
    · cases hbb : bt b.ct j
      · have HB1 := Lib.hid hbb
        clear hbb
        go_wp2_with (go_at_call 31; refine (has_any b j false _ hb (by omega) HB1.out).mono ?_; rintro e w1 ⟨rfl, hk1⟩)
        go_roundw
        case rel =>
          refine ⟨j + 1, hlt, by go_num, Lib.hid (fun k hk' hb' => ?_), ha1.keep hk1, hb1.keep hk1, hk.trans hk1⟩
          by_cases hkj : k = j
          · subst hkj; rw [HB1.out] at hb'; cases hb'
          · exact hle.out k (by omega) hb'
        case measure => simp [intOf]; omega
      · cases haa : bt a.ct j
        · have HB1 := Lib.hid hbb
          have HA1 := Lib.hid haa
          clear hbb haa
          go_wp2_with fail
          refine (has_any b j true _ hb (by omega) HB1.out).mono ?_
          rintro e w1 ⟨rfl, hk1⟩
          obtain ⟨c0, c1⟩ := (ha1.keep hk1).cells
          go_wp2_with fail
          refine (has_any a j false _ ha (by omega) HA1.out).mono ?_
          rintro e w2 ⟨rfl, hk2⟩
          go_wp2
          go_ret
          rw [dm_nobit ha j HB1.out HA1.out]
          exact ⟨rfl, (hk.trans hk1).trans hk2⟩
        · have HB1 := Lib.hid hbb
          have HA1 := Lib.hid haa
          clear hbb haa
          go_wp2_with fail
          refine (has_any b j true _ hb (by omega) HB1.out).mono ?_
          rintro e w1 ⟨rfl, hk1⟩
          obtain ⟨c0, c1⟩ := (ha1.keep hk1).cells
          go_wp2_with fail
          refine (has_any a j true _ ha (by omega) HA1.out).mono ?_
          rintro e w2 ⟨rfl, hk2⟩
          go_wp2
          go_roundw
          case rel =>
            refine ⟨j + 1, hlt, by go_num, Lib.hid (fun k hk' hb' => ?_), (ha1.keep hk1).keep hk2, (hb1.keep hk1).keep hk2, (hk.trans hk1).trans hk2⟩
            by_cases hkj : k = j
            · subst hkj; exact HA1.out
            · exact hle.out k (by omega) hb'
          case measure => simp [intOf]; omega
    · obtain rfl : j = 16 := by omega
      have HD := Lib.hid (dm_bits ha hb hle.out)
      go_wp2
      go_ret
      rw [HD.out]
      exact ⟨rfl, hk⟩
end Go.Proofs.YtknjekakncjbgabDoor
