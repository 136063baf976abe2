/- ClockEnds: at its end the time stands, whatever ticks come. -/
import Derived.Test.YthfiepgonjfapaaClkAt
namespace Go.Proofs.Ythfiepgonjfapaa
open Go.RowKit

theorem and_low (m : Int) : ∃ k : Nat, k < 1125899906842624 ∧ bits BinOp.and IntKind.i64 m 1125899906842623 = (k : Int) := by
  have e1 : (BitVec.ofInt 64 m &&& BitVec.ofInt 64 1125899906842623).toNat = (m % 18446744073709551616).toNat % 2 ^ 50 := by
    rw [BitVec.toNat_and, show (BitVec.ofInt 64 1125899906842623) = BitVec.ofNat 64 1125899906842623 from rfl, BitVec.toNat_ofNat, BitVec.toNat_ofInt, show 1125899906842623 % 2 ^ 64 = 2 ^ 50 - 1 from rfl, Nat.and_two_pow_sub_one_eq_mod]
    rfl
  refine ⟨(m % 18446744073709551616).toNat % 2 ^ 50, Nat.mod_lt _ (by decide), ?_⟩
  show IntKind.i64.wrap ((BitVec.ofInt 64 m &&& BitVec.ofInt 64 1125899906842623).toNat : Int) = _
  rw [e1]
  have hlt : (m % 18446744073709551616).toNat % 2 ^ 50 < 1125899906842624 := Nat.mod_lt _ (by decide)
  generalize (m % 18446744073709551616).toNat % 2 ^ 50 = q at *
  simp only [IntKind.wrap, IntKind.bits, IntKind.signed]
  simp
  omega

theorem later_zero {k : Nat} (hk : k ≤ 1125899906842624) : later 0 (k : Int) = k := by
  by_cases h : (k : Int) ≤ 0
  · rw [later_no h]; omega
  · rw [later_sum (by omega) (by omega)]; omega
theorem later_top (n : Int) : later 1125899906842624 n = 1125899906842624 := by
  by_cases h : n ≤ 0
  · rw [later_no h]
  · rw [later_end (by omega) (by omega)]
theorem later_max {c : Int} (h : 0 ≤ c) (h1 : c ≤ 1125899906842624) : later c 1125899906842624 = 1125899906842624 := by
  by_cases h0 : c = 0
  · rw [h0]; decide
  · rw [later_end (by omega) (by omega)]

set_option maxRecDepth 100000 in
set_option maxHeartbeats 4000000 in
theorem ends_law (A : Option Addr) (len cap : Nat) (zs : List Int) (t : Int) (w : World) (row : Arr .i64 w A len zs) :
    Calls Try.prog 6 #[.slice A len cap, .int .i64 t] w fun e w' => e = .returned (.bool true) ∧ Keep w w' := by
  have hz : ∀ z ∈ zs, inI z := fun z hz => inI_of (row.2.2 z hz)
  obtain ⟨hml, hL, -⟩ := row
  unfold maxLen at hml
  by_cases h3 : 100 < len
  · clear hz hL
    go_enter Try.func6, Try.ntmps6
    go_wp2_with (go_at_call 8; refine (alive_any _).mono ?_; rintro e w1 ⟨rfl, hk1⟩)
    go_ret
    exact ⟨rfl, hk1⟩
  · have hl : zs.length = len := by have := hL.1; rwa [vals_length] at this
    have HLN := Lib.hid hl
    have HL := Lib.hid hL
    have HZ := Lib.hid hz
    have hl3 : (len : Int) ≤ 100 := by omega
    obtain ⟨k, hk, hb⟩ := and_low t
    have he : 1 + (k : Int) - 1 = (k : Int) := by omega
    have htop : (k : Int) ≤ 1125899906842623 := by omega
    have HA := Lib.hid (later_zero (k := k) (by omega))
    have HB := Lib.hid (show later (k : Int) 1 = 1 + (k : Int) by rw [later_sum (by omega) (by omega)]; omega)
    have HC := Lib.hid (later_max (c := 1 + (k : Int)) (by omega) (by omega))
    have HI := Lib.hid (show inI (k : Int) from ⟨by omega, by omega⟩)
    have HP := Lib.hid (show decide (1 + (k : Int) ≤ (k : Int)) = false from decide_eq_false (by omega))
    have HQ := Lib.hid (show decide (1 + (k : Int) ≤ 1 + (k : Int)) = true from decide_eq_true (by omega))
    clear hl hL hz hml hk
    go_enter Try.func6, Try.ntmps6
    go_wp2_with fail
    go_at_call 8
    refine (alive_any _).mono ?_
    rintro e w1 ⟨rfl, hk1⟩
    have H0 := Lib.hid (Own.new w w1 hk1)
    clear hk1
    go_wp2_with fail
    generalize w1.alloc (.cells #[.int .i64 0] 25) = W1 at *
    generalize w1.heap.size = b at *
    refine (o_tick k k H0.out HI.out HA.out).mono ?_
    rintro e w2 ⟨rfl, h2, -⟩
    have H2 := Lib.hid h2
    clear h2 H0
    go_wp2_with fail
    refine (o_past (1 + (k : Int)) false H2.out HP.out).mono ?_
    rintro e w3 ⟨rfl, rfl⟩
    go_wp2_with fail
    refine (o_now H2.out).mono ?_
    rintro e w3 ⟨rfl, rfl⟩
    go_wp2_with fail
    refine (o_tick 1 (1 + (k : Int)) H2.out ⟨by decide, by decide⟩ HB.out).mono ?_
    rintro e w3 ⟨rfl, h3, -⟩
    have H3 := Lib.hid h3
    clear h3 H2
    go_wp2_with fail
    refine (o_past (1 + (k : Int)) true H3.out HQ.out).mono ?_
    rintro e w4 ⟨rfl, rfl⟩
    go_wp2_with fail
    refine (o_tick 1125899906842624 1125899906842624 H3.out ⟨by decide, by decide⟩ HC.out).mono ?_
    rintro e w4 ⟨rfl, h4, -⟩
    have H4 := Lib.hid h4
    clear h4 H3
    go_wp2_with fail
    go_loopw [38] (fun i wr => ∃ (j : Nat), j ≤ len ∧ i = .int .i64 j ∧ Own w b 1125899906842624 wr) (fun i _ => len - (intOf i).toNat)
    case atStart => exact ⟨0, Nat.zero_le _, rfl, H4.out⟩
    case round =>
      obtain ⟨j, hj, rfl, hO⟩ := hrel
      have HO := Lib.hid hO
      clear hO H4
      by_cases hlt : j < len
      · obtain ⟨v, hv⟩ : ∃ v, zs[j]? = some v := ⟨_, List.getElem?_eq_getElem (by rw [HLN.out]; exact hlt)⟩
        obtain ⟨b1, off, e⟩ := row_addr HL.out (by omega)
        subst e
        have c0 := row_at (HL.out.up HO.out.keep) hlt hv
        have hjm : (j : Int) < (len : Int) := by omega
        have HV := Lib.hid (HZ.out v (List.mem_of_getElem? hv))
        clear hv
        go_wp2_with fail
        refine (o_tick v 1125899906842624 HO.out HV.out (later_top v)).mono ?_
        rintro e w5 ⟨rfl, h5, -⟩
        have H5 := Lib.hid h5
        clear h5 HO c0
        go_wp2_with fail
        refine (o_after v 1125899906842624 H5.out HV.out (later_top v)).mono ?_
        rintro e w6 ⟨rfl, rfl⟩
        go_wp2_with fail
        go_roundw
        case rel => exact ⟨j + 1, hlt, by go_num, H5.out⟩
        case measure => simp [intOf]; omega
      · obtain rfl : j = len := by omega
        clear hlt hj
        go_wp2_with fail
        refine (o_now HO.out).mono ?_
        rintro e w5 ⟨rfl, rfl⟩
        go_wp2
        go_ret
        exact ⟨rfl, HO.out.keep⟩

theorem ClockEnds_std (a : Option Addr) (len cap : Nat) (zs : List Int) (a1 : Int) (_wf1 : (Lit.int .i64 a1).wf = true) (w : World) (row : Arr .i64 w a len zs) :
    Calls Try.prog 6 #[.slice a len cap, .int .i64 a1] w fun e w' => e = .returned (.bool true) ∧ Below w.heap.size w w' := ends_law a len cap zs a1 w row
end Go.Proofs.Ythfiepgonjfapaa
