/- ClockForth: time never goes back, nor beyond its end; what is past stays so; two ticks are one of both together. -/
import Derived.Test.YthfiepgonjfapaaClkLawC
namespace Go.Proofs.Ythfiepgonjfapaa
open Go.RowKit

theorem and_24 (m : Int) : ∃ k : Nat, k < 16777216 ∧ bits BinOp.and IntKind.i64 m 16777215 = (k : Int) := by
  have e1 : (BitVec.ofInt 64 m &&& BitVec.ofInt 64 16777215).toNat = (m % 18446744073709551616).toNat % 2 ^ 24 := by
    rw [BitVec.toNat_and, show (BitVec.ofInt 64 16777215) = BitVec.ofNat 64 16777215 from rfl, BitVec.toNat_ofNat, BitVec.toNat_ofInt, show 16777215 % 2 ^ 64 = 2 ^ 24 - 1 from rfl, Nat.and_two_pow_sub_one_eq_mod]
    rfl
  refine ⟨(m % 18446744073709551616).toNat % 2 ^ 24, Nat.mod_lt _ (by decide), ?_⟩
  show IntKind.i64.wrap ((BitVec.ofInt 64 m &&& BitVec.ofInt 64 16777215).toNat : Int) = _
  rw [e1]
  have hlt : (m % 18446744073709551616).toNat % 2 ^ 24 < 16777216 := Nat.mod_lt _ (by decide)
  generalize (m % 18446744073709551616).toNat % 2 ^ 24 = q at *
  simp only [IntKind.wrap, IntKind.bits, IntKind.signed]
  simp
  omega
theorem Own.newc (w0 w : World) (c : Int) (hk : Keep w0 w) (h0 : 0 ≤ c) (h1 : c ≤ 1125899906842624) : Own w0 w.heap.size c (w.alloc (.cells #[.int .i64 c] 25)) := ⟨Clk.new w c, hk.alloc _, hk.size, h0, h1⟩
theorem Own.free {w0 w : World} {b : Nat} {c : Int} (h : Own w0 b c w) : w.frozen? ⟨b, 0, none⟩ = false := h.clk.free
theorem Own.cell {w0 w : World} {b : Nat} {c : Int} (h : Own w0 b c w) : w.cell? ⟨b, 0, none⟩ = some (.int .i64 c) := h.clk.cell

set_option maxRecDepth 100000 in
set_option maxHeartbeats 4000000 in
theorem forth_law (A : Option Addr) (len cap : Nat) (zs : List Int) (t m n : Int) (w : World) (row : Arr .i64 w A len zs) :
    Calls Try.prog 4 #[.slice A len cap, .int .i64 t, .int .i64 m, .int .i64 n] w fun e w' => e = .returned (.bool true) ∧ Keep w w' := by
  have hz : ∀ z ∈ zs, inI z := fun z hz => inI_of (row.2.2 z hz)
  obtain ⟨hml, hL, -⟩ := row
  unfold maxLen at hml
  by_cases h3 : 100 < len
  · clear hz hL
    go_enter Try.func4, Try.ntmps4
    go_wp2_with (go_at_call 8; refine (alive_any _).mono ?_; rintro e w1 ⟨rfl, hk1⟩)
    go_ret
    exact ⟨rfl, hk1⟩
  · have hl : zs.length = len := by have := hL.1; rwa [vals_length] at this
    have HLN := Lib.hid hl
    have HL := Lib.hid hL
    have HZ := Lib.hid hz
    have hl3 : (len : Int) ≤ 100 := by omega
    obtain ⟨k, hk, hb⟩ := and_24 m
    obtain ⟨q, hq, hc⟩ := and_24 n
    have hk2 : (k : Int) ≤ 16777215 := by omega
    have hq2 : (q : Int) ≤ 16777215 := by omega
    clear hl hL hz hml hk hq
    go_enter Try.func4, Try.ntmps4
    go_wp2_with fail
    go_at_call 8
    refine (alive_any _).mono ?_
    rintro e w1 ⟨rfl, hk1⟩
    have H0 := Lib.hid (Own.new w w1 hk1)
    clear hk1
    go_wp2_with fail
    generalize w1.alloc (.cells #[.int .i64 0] 25) = W1 at *
    generalize w1.heap.size = b at *
    go_loopw [10, 11, 27] (fun s u i wr => ∃ (j : Nat) (wb : Bool), j ≤ len ∧ i = .int .i64 j ∧ s = .int .i64 (lates 0 (zs.take j)) ∧ u = .bool wb ∧ (wb = true → t ≤ lates 0 (zs.take j)) ∧ Own w b (lates 0 (zs.take j)) wr) (fun s u i _ => len - (intOf i).toNat)
    case atStart => exact ⟨0, false, Nat.zero_le _, rfl, rfl, rfl, (fun h => by cases h), H0.out⟩
    case round =>
      obtain ⟨j, wb, hj, rfl, rfl, rfl, hw, hO⟩ := hrel
      have HO := Lib.hid hO
      have HW := Lib.hid hw
      clear hO H0 hw
      by_cases hlt : j < len
      · obtain ⟨v, hv⟩ : ∃ v, zs[j]? = some v := ⟨_, List.getElem?_eq_getElem (by rw [HLN.out]; exact hlt)⟩
        obtain ⟨b1, off, e⟩ := row_addr HL.out (by omega)
        subst e
        have c0 := row_at (HL.out.up HO.out.keep) hlt hv
        have hjm : (j : Int) < (len : Int) := by omega
        have HV := Lib.hid (HZ.out v (List.mem_of_getElem? hv))
        have HT := Lib.hid (show lates 0 (zs.take (j + 1)) = later (lates 0 (zs.take j)) v by rw [take_succ hv, lates_snoc])
        clear hv
        generalize lates 0 (zs.take j) = c at *
        obtain ⟨d, hd⟩ : ∃ d, later c v = d := ⟨_, rfl⟩
        have hcd : decide (d < c) = false := by rw [← hd]; exact decide_eq_false (by have := later_ge (n := v) HO.out.ok1; omega)
        have hdt : decide (1125899906842624 < d) = false := by rw [← hd]; exact decide_eq_false (by have := later_le (n := v) HO.out.ok1; omega)
        have hcd2 : c ≤ d := by rw [← hd]; exact later_ge HO.out.ok1
        have HCD := Lib.hid hcd2
        have HD := Lib.hid hd
        obtain ⟨pb, hpb⟩ : ∃ pb, decide (t ≤ d) = pb := ⟨_, rfl⟩
        have HPB := Lib.hid hpb
        have hwp : (wb && !pb) = false := by
          cases hwb : wb
          · rfl
          · have h1 := HW.out hwb
            have h2 : decide (t ≤ d) = true := decide_eq_true (by omega)
            rw [h2] at hpb
            rw [← hpb]; rfl
        clear hd hpb hcd2
        go_wp2_with fail
        refine (o_tick v d HO.out HV.out HD.out).mono ?_
        rintro e w3 ⟨rfl, h3, -⟩
        have H3 := Lib.hid h3
        clear h3 c0 HO
        go_wp2_with fail
        refine (o_past t pb H3.out HPB.out).mono ?_
        rintro e w4 ⟨rfl, rfl⟩
        have hwb := hwp
        cases wb
        · clear hwp
          go_wp2_with fail
          go_roundw
          case rel => exact ⟨j + 1, pb, hlt, by go_num, by rw [HT.out, HD.out], rfl, (fun h => by rw [HT.out, HD.out]; have := HPB.out; rw [h] at this; exact of_decide_eq_true this), by rw [HT.out, HD.out]; exact H3.out⟩
          case measure => simp [intOf]; omega
        · have hp : pb = true := by simpa using hwb
          subst hp
          clear hwp
          go_wp2_with fail
          go_roundw
          case rel => exact ⟨j + 1, true, hlt, by go_num, by rw [HT.out, HD.out], rfl, (fun _ => by rw [HT.out, HD.out]; exact of_decide_eq_true HPB.out), by rw [HT.out, HD.out]; exact H3.out⟩
          case measure => simp [intOf]; omega
      · obtain rfl : j = len := by omega
        clear hlt hj
        have hE := HO.out
        generalize lates 0 (zs.take j) = c at *
        have hcell := hE.cell
        have h1 := Own.newc w wr c hE.keep hE.ok0 hE.ok1
        have h2 := Own.newc w _ c h1.keep hE.ok0 hE.ok1
        have hE2 := (hE.kept ((Keep.refl _).alloc (.cells #[.int .i64 c] 25))).kept ((Keep.refl _).alloc (.cells #[.int .i64 c] 25))
        have hltb := hE.clk.lt
        have h1b := h1.kept ((Keep.refl _).alloc (.cells #[.int .i64 c] 25))
        rw [show (wr.alloc (.cells #[.int .i64 c] 25)).heap.size = wr.heap.size + 1 by simp] at h2
        have hlo := h1.lo
        obtain ⟨d, hd⟩ : ∃ d, later c k = d := ⟨_, rfl⟩
        obtain ⟨f, hf⟩ : ∃ f, later d q = f := ⟨_, rfl⟩
        have HF2 := Lib.hid (show later c ((k : Int) + (q : Int)) = f by rw [← later_two (by omega) (by omega), hd, hf])
        have HD := Lib.hid hd
        have HF := Lib.hid hf
        have HI := Lib.hid (show inI (k : Int) ∧ inI (q : Int) ∧ inI ((k : Int) + (q : Int)) from ⟨⟨by omega, by omega⟩, ⟨by omega, by omega⟩, ⟨by omega, by omega⟩⟩)
        have H1 := Lib.hid h1b
        have H2 := Lib.hid h2
        have HB := Lib.hid hE2
        clear h1 h2 hE2 h1b hE hd hf HO
        go_wp2_with fail
        generalize hp : wr.heap.size = p at *
        generalize (wr.alloc (.cells #[.int .i64 c] 25)).alloc (.cells #[.int .i64 c] 25) = W2 at *
        clear hcell
        refine (o_tick k d H1.out HI.out.1 HD.out).mono ?_
        rintro e w5 ⟨rfl, h5, o5⟩
        have H5 := Lib.hid h5
        have H25 := Lib.hid (H2.out.only o5 (by omega) (fun z hz => by rw [hz]; exact hlo))
        have HB5 := Lib.hid (HB.out.only o5 (by omega) (fun z hz => by rw [hz]; exact hlo))
        clear h5 o5 H1 H2 HB
        go_wp2_with fail
        refine (o_tick q f H5.out HI.out.2.1 HF.out).mono ?_
        rintro e w6 ⟨rfl, h6, o6⟩
        have H26 := Lib.hid (H25.out.only o6 (by omega) (fun z hz => by rw [hz]; exact hlo))
        have HB6 := Lib.hid (HB5.out.only o6 (by omega) (fun z hz => by rw [hz]; exact hlo))
        clear h6 o6 H5 H25 HB5
        go_wp2_with fail
        refine (o_tick ((k : Int) + (q : Int)) f H26.out HI.out.2.2 HF2.out).mono ?_
        rintro e w7 ⟨rfl, h7, o7⟩
        have HB7 := Lib.hid (HB6.out.only o7 (by omega) (fun z hz => by rw [hz]; exact H26.out.lo))
        clear h7 o7 H26 HB6
        go_wp2_with fail
        refine (o_now HB7.out).mono ?_
        rintro e w8 ⟨rfl, rfl⟩
        go_wp2
        go_ret
        exact ⟨rfl, HB7.out.keep⟩

theorem ClockForth_std (a : Option Addr) (len cap : Nat) (zs : List Int) (a1 : Int) (_wf1 : (Lit.int .i64 a1).wf = true) (a2 : Int) (_wf2 : (Lit.int .i64 a2).wf = true) (a3 : Int) (_wf3 : (Lit.int .i64 a3).wf = true) (w : World) (row : Arr .i64 w a len zs) :
    Calls Try.prog 4 #[.slice a len cap, .int .i64 a1, .int .i64 a2, .int .i64 a3] w fun e w' => e = .returned (.bool true) ∧ Below w.heap.size w w' := forth_law a len cap zs a1 a2 a3 w row
end Go.Proofs.Ythfiepgonjfapaa
