/- ClockPlays: of all rows of ticks every time, and what comes later, is as the document says. -/
import Derived.Test.YthfiepgonjfapaaClkAt
namespace Go.Proofs.Ythfiepgonjfapaa
open Go.RowKit

set_option maxRecDepth 100000 in
set_option maxHeartbeats 4000000 in
theorem plays_law (A : Option Addr) (len cap : Nat) (zs : List Int) (n t : Int) (w : World) (row : Arr .i64 w A len zs) (hn : inI n) :
    Calls Try.prog 3 #[.slice A len cap, .int .i64 n, .int .i64 t] w fun e w' => e = .returned (.bool true) ∧ Keep w w' := by
  have hz : ∀ z ∈ zs, inI z := fun z hz => inI_of (row.2.2 z hz)
  obtain ⟨hml, hL, -⟩ := row
  unfold maxLen at hml
  by_cases h3 : 100 < len
  · clear hz hL
    go_enter Try.func3, Try.ntmps3
    go_wp2_with (go_at_call 8; refine (alive_any _).mono ?_; rintro e w1 ⟨rfl, hk1⟩)
    go_ret
    exact ⟨rfl, hk1⟩
  · have hl : zs.length = len := by have := hL.1; rwa [vals_length] at this
    have HLN := Lib.hid hl
    have HL := Lib.hid hL
    have HZ := Lib.hid hz
    have HN := Lib.hid hn
    have hl3 : (len : Int) ≤ 100 := by omega
    clear hl hL hz hn hml
    go_enter Try.func3, Try.ntmps3
    go_wp2_with fail
    go_at_call 8
    refine (alive_any _).mono ?_
    rintro e w1 ⟨rfl, hk1⟩
    have H0 := Lib.hid (Own.new w w1 hk1)
    clear hk1
    go_wp2_with fail
    generalize w1.alloc (.cells #[.int .i64 0] 25) = W1 at *
    generalize w1.heap.size = b at *
    go_loopw [8, 18] (fun s i wr => ∃ (j : Nat), j ≤ len ∧ i = .int .i64 j ∧ s = .int .i64 (lates 0 (zs.take j)) ∧ Own w b (lates 0 (zs.take j)) wr) (fun s i _ => len - (intOf i).toNat)
    case atStart => exact ⟨0, Nat.zero_le _, rfl, rfl, H0.out⟩
    case round =>
      obtain ⟨j, hj, rfl, rfl, hO⟩ := hrel
      have HO := Lib.hid hO
      clear hO H0
      by_cases hlt : j < len
      · obtain ⟨v, hv⟩ : ∃ v, zs[j]? = some v := ⟨_, List.getElem?_eq_getElem (by rw [HLN.out]; exact hlt)⟩
        obtain ⟨b1, off, e⟩ := row_addr HL.out (by omega)
        subst e
        have c0 := row_at (HL.out.up HO.out.keep) hlt hv
        have hjm : (j : Int) < (len : Int) := by omega
        have HV := Lib.hid (HZ.out v (List.mem_of_getElem? hv))
        have HT := Lib.hid (show lates 0 (zs.take (j + 1)) = later (lates 0 (zs.take j)) v by rw [take_succ hv, lates_snoc])
        clear hv
        generalize lates 0 (zs.take j) = c at *
        obtain ⟨d, hd⟩ : ∃ d, later c v = d := ⟨_, rfl⟩
        obtain ⟨f, hf⟩ : ∃ f, later d n = f := ⟨_, rfl⟩
        have HD := Lib.hid hd
        have HF := Lib.hid hf
        clear hd hf
        go_wp2_with fail
        refine (rlater_is c v wr HO.out.ok0 HO.out.ok1 HV.out).mono ?_
        rw [HD.out]
        rintro e w2 ⟨rfl, rfl⟩
        go_wp2_with fail
        refine (o_after v d HO.out HV.out HD.out).mono ?_
        rintro e w2 ⟨rfl, rfl⟩
        go_wp2_with fail
        refine (o_tick v d HO.out HV.out HD.out).mono ?_
        rintro e w3 ⟨rfl, h3, -⟩
        have H3 := Lib.hid h3
        clear h3 c0 HO
        go_wp2_with fail
        refine (o_now H3.out).mono ?_
        rintro e w4 ⟨rfl, rfl⟩
        go_wp2_with fail
        refine (o_after n f H3.out HN.out HF.out).mono ?_
        rintro e w4 ⟨rfl, rfl⟩
        go_wp2_with fail
        refine (rlater_is d n w3 H3.out.ok0 H3.out.ok1 HN.out).mono ?_
        rw [HF.out]
        rintro e w4 ⟨rfl, rfl⟩
        go_wp2_with fail
        refine (o_past t _ H3.out rfl).mono ?_
        rintro e w4 ⟨rfl, rfl⟩
        go_wp2_with fail
        go_roundw
        case rel => exact ⟨j + 1, hlt, by go_num, by rw [HT.out, HD.out], by rw [HT.out, HD.out]; exact H3.out⟩
        case measure => simp [intOf]; omega
      · obtain rfl : j = len := by omega
        clear hlt hj
        have HK := Lib.hid HO.out.keep
        clear HO
        go_wp2_with fail
        refine (least_is A j cap zs wr (HL.out.up HK.out) (by omega)).mono ?_
        rintro e w4 ⟨rfl, rfl⟩
        go_wp2_with fail
        refine (rleast_is A j cap zs wr (HL.out.up HK.out) (by omega)).mono ?_
        rintro e w4 ⟨rfl, rfl⟩
        go_wp2
        go_ret
        exact ⟨rfl, HK.out⟩

theorem ClockPlays_std (a : Option Addr) (len cap : Nat) (zs : List Int) (a1 : Int) (wf1 : (Lit.int .i64 a1).wf = true) (a2 : Int) (_wf2 : (Lit.int .i64 a2).wf = true) (w : World) (row : Arr .i64 w a len zs) :
    Calls Try.prog 3 #[.slice a len cap, .int .i64 a1, .int .i64 a2] w fun e w' => e = .returned (.bool true) ∧ Below w.heap.size w w' := plays_law a len cap zs a1 a2 w row (inI_of wf1)
end Go.Proofs.Ythfiepgonjfapaa
