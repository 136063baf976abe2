/- AggShifts: values that are all more by as much are told so. -/
import Derived.Test.YtglokhpgjfoneacAggTwo
namespace Go.Proofs.Ytglokhpgjfoneac
open Go.RowKit

/-- What is told of values, and of those that are all more by d. -/
structure Shf (n : Nat) (d : Int) (x y : Ag) : Prop where
  xo : x.ok
  yo : y.ok
  c : y.c = x.c
  xc : x.c = n
  s : wrap64 (x.s + d * n) = y.s
  mn : wrap64 (x.mn + d) = y.mn
  mx : wrap64 (x.mx + d) = y.mx
  av : wrap64 (avg x + d) = avg y
theorem mul_bd {d : Int} {n : Nat} (hd : -1099511627776 < d ∧ d < 1099511627776) (hn : n ≤ 300) : -329853488332800 ≤ d * n ∧ d * n ≤ 329853488332800 := by
  have h1 : (0 : Int) ≤ n := by omega
  have h2 : d * n ≤ 1099511627776 * n := Int.mul_le_mul_of_nonneg_right (by omega) h1
  have h3 : -1099511627776 * n ≤ d * n := Int.mul_le_mul_of_nonneg_right (by omega) h1
  omega
theorem shf (zs : List Int) (d : Int) (hd : -1099511627776 < d ∧ d < 1099511627776) (hl : zs.length ≤ 300) (h0 : 0 < zs.length) : Shf zs.length d (ofL (sml 1099511627776 zs)) (ofL (sft d (sml 1099511627776 zs))) := by
  have hin := sml_in (M := 1099511627776) (zs := zs) (by decide) (by decide)
  have hbd := sml_bd (M := 1099511627776) (zs := zs) (by decide)
  have hsl := sml_len 1099511627776 zs
  generalize sml 1099511627776 zs = xs at *
  rw [← hsl] at hl h0 ⊢
  have hne : xs ≠ [] := fun e => by rw [e] at h0; simp at h0
  have hof := isOf xs (by omega) hin
  have hsb := sm_bd (M := 1099511627776) xs (fun z hz => by have := hbd z hz; omega)
  have hmb := mul_bd hd hl
  have hn3 : (xs.length : Int) ≤ 300 := by omega
  have hin2 : ∀ z ∈ sft d xs, inI z := fun z hz => by
    obtain ⟨x, hx, rfl⟩ := List.mem_map.1 hz
    have := hbd x hx
    show inI (x + d)
    unfold inI
    omega
  have hsw : wrap64 (sm xs) = sm xs := wr_id (by unfold inI; omega)
  have hof2 := hof.sft d hne hsw
  have hu := (isOf (sft d xs) (by rw [sft_len]; omega) hin2).unique hof2
  rw [hu]
  have hs : (ofL xs).s = sm xs := by rw [hof.s, hsw]
  have hmn := hbd _ (hof.mn hne)
  have hmx := hbd _ (hof.mx hne)
  have hc := hof.c
  have hok := ofL_ok xs hin
  have hok2 := ofL_ok _ hin2
  rw [hu] at hok2
  generalize ofL xs = a at *
  have hcp : 0 < a.c := by omega
  have hav : avg a = a.s / a.c := if_neg (by omega)
  refine ⟨hok, hok2, rfl, hc, rfl, wr_id (by unfold inI; omega), wr_id (by unfold inI; omega), ?_⟩
  have hw : wrap64 (a.s + d * xs.length) = a.s + d * xs.length := wr_id (by unfold inI; omega)
  have he : avg ⟨a.c, wrap64 (a.s + d * xs.length), a.mn + d, a.mx + d⟩ = avg a + d := by
    have : avg ⟨a.c, wrap64 (a.s + d * xs.length), a.mn + d, a.mx + d⟩ = wrap64 (a.s + d * xs.length) / a.c := if_neg (show ¬ a.c < 1 by omega)
    rw [this, hw, hav, hc, Int.add_mul_ediv_right _ _ (by omega)]
  rw [he]
  have h1 : -1099511627776 ≤ avg a := by
    rw [hav, Int.le_ediv_iff_mul_le hcp, hc]
    omega
  have h2 : avg a < 1099511627777 := by
    rw [hav, Int.ediv_lt_iff_lt_mul hcp, hc]
    omega
  exact wr_id (by unfold inI; omega)

set_option maxRecDepth 100000 in
set_option maxHeartbeats 4000000 in
theorem shifts_law (A : Option Addr) (n cap : Nat) (zs : List Int) (by0 : Int) (w : World) (row : Arr .i64 w A n zs) :
    Calls Try.prog 5 #[.slice A n cap, .int .i64 by0] w fun e w' => e = .returned (.bool true) ∧ Keep w w' := by
  obtain ⟨hml, hL, -⟩ := row
  unfold maxLen at hml
  by_cases h3 : 300 < n
  · clear hL
    go_enter Try.func5, Try.ntmps5
    go_wp2_with (go_at_call 8; refine (alive_any _).mono ?_; rintro e w1 ⟨rfl, hk1⟩)
    go_ret
    exact ⟨rfl, hk1⟩
  · obtain ⟨i0, hi, hz0, hz1, hz2⟩ := info_parts infoI64
    have hl : zs.length = n := by have := hL.1; rwa [vals_length] at this
    have HLN := Lib.hid hl
    have HL := Lib.hid hL
    have hn3 : (n : Int) ≤ 300 := by omega
    have hM : (1099511627776 : Int) ≠ 0 := by decide
    clear hL hl hml
    go_enter Try.func5, Try.ntmps5
    go_wp2_with (go_at_call 8; refine (alive_any _).mono ?_; rintro e w1 ⟨rfl, hk1⟩)
    have hd := tmod_bd (z := by0) (M := 1099511627776) (by decide)
    generalize by0.tmod 1099511627776 = d at *
    go_loopw [5, 6, 26] (fun s t i wr => ∃ (j : Nat) (B : Option Addr) (c : Nat) (D : Option Addr) (e : Nat), j ≤ n ∧ i = .int .i64 j ∧ s = .slice B j c ∧ t = .slice D j e ∧ TwoL w1 wr B j c ((sml 1099511627776 zs).take j) D j e ((sft d (sml 1099511627776 zs)).take j)) (fun s t i _ => n - (intOf i).toNat)
    case atStart => exact ⟨0, _, 0, _, 0, Nat.zero_le _, rfl, rfl, rfl, TwoL.new w1⟩
    case round =>
      obtain ⟨j, B, c, D, e, hj, rfl, rfl, rfl, hO⟩ := hrel
      by_cases hlt : j < n
      · obtain ⟨x, hx⟩ : ∃ x, zs[j]? = some x := ⟨_, List.getElem?_eq_getElem (by rw [HLN.out]; exact hlt)⟩
        obtain ⟨b, off, ea, hb, hc⟩ := (HL.out.up (hk1.trans hO.keep)).2 (by omega)
        subst ea
        have c0 : wr.cell? ⟨b, off + j, none⟩ = some (.int .i64 x) := by rw [hc j hlt, vals_get hx]
        have hx2 : (sml 1099511627776 zs)[j]? = some (x.tmod 1099511627776) := by simp [sml, hx]
        have HT := Lib.hid (And.intro (sml_take (M := 1099511627776) hx) (sft_take (d := d) hx2))
        have hxb := tmod_bd (z := x) (M := 1099511627776) (by decide)
        have hw : wrap64 (x.tmod 1099511627776 + d) = x.tmod 1099511627776 + d := wr_id (by unfold inI; omega)
        have HO := Lib.hid hO
        have hs := hO.keep.size
        have hjm : (j : Int) < (n : Int) := by omega
        clear hc hx hx2 hO
        go_wp2_with (first
          | (at_builtin; refine wpList_append_from rfl _ _ 22 rfl w1.heap.size 2 i0 (.int .i64 0) 8 Try.underlying22 hi hz0 hz1 hz2 rfl (.slice D j e) j _ rfl (HO2.out.rb.alloc _) _ (some ⟨w5.heap.size, 0, none⟩) 1 1 [.int .i64 (x.tmod 1099511627776 + d)] rfl (one_lies _ _ _) (fun h => by cases h) (by simp [Value.oneCell']) (by unfold maxLen; omega) (by omega) (by simp; omega) ?_; intro A6 c6 w6 hown6 hgrow6 hat6)
          | ((at_builtin; refine wpList_append_from rfl _ _ 22 rfl w1.heap.size 2 i0 (.int .i64 0) 8 Try.underlying22 hi hz0 hz1 hz2 rfl (.slice B j c) j _ rfl (HO.out.ra.alloc _) _ (some ⟨wr.heap.size, 0, none⟩) 1 1 [.int .i64 (x.tmod 1099511627776)] rfl (one_lies _ _ _) (fun h => by cases h) (by simp [Value.oneCell']) (by unfold maxLen; omega) (by omega) (by simp; omega) ?_; intro A5 c5 w5 hown5 hgrow5 hat5); have hO2 := HO.out.grown _ hown5 hgrow5 hat5; have hs5 := hO2.keep.size; have HO2 := Lib.hid hO2; clear hO2 hown5 hgrow5 hat5))
        have hO6 := (HO2.out.swap.grown _ hown6 hgrow6 hat6).swap
        rw [HT.out.1, HT.out.2] at hO6
        clear hown6 hgrow6 hat6
        go_wp2_with fail
        go_roundw
        case rel => exact ⟨j + 1, A5, c5, A6, c6, hlt, by go_num, rfl, rfl, hO6⟩
        case measure => simp [intOf]; omega
      · obtain rfl : j = n := by omega
        have hf : (sml 1099511627776 zs).take j = sml 1099511627776 zs := List.take_of_length_le (by rw [sml_len, HLN.out]; exact Nat.le_refl _)
        have hf2 : (sft d (sml 1099511627776 zs)).take j = sft d (sml 1099511627776 zs) := List.take_of_length_le (by rw [sft_len, sml_len, HLN.out]; exact Nat.le_refl _)
        rw [hf, hf2] at hO
        have HO := Lib.hid hO
        clear hf hf2 hO hj hlt
        by_cases hj0 : j = 0
        · subst hj0
          have hze : zs = [] := List.eq_nil_of_length_eq_zero HLN.out
          subst hze
          have HC1 := Lib.hid (of_any B 0 c [] wr HO.out.lies (by decide))
          have HC2 := Lib.hid (fun (w2 : World) (hk2 : Keep wr w2) => of_any D 0 e [] w2 (HO.out.up hk2).swap.lies (by decide))
          have q1 := equal_ag 0 0 0 0
          go_wp2_with fail
          go_at_call 13
          refine HC1.out.mono ?_
          rintro e w2 ⟨rfl, hk2⟩
          go_wp2_with fail
          go_at_call 13
          refine (HC2.out _ hk2).mono ?_
          rintro e w3 ⟨rfl, hk3⟩
          have hK := ((((hk1.trans HO.out.keep).trans hk2).trans hk3).alloc (.cells #[.int .i64 nil0.c, .int .i64 nil0.s, .int .i64 nil0.mn, .int .i64 nil0.mx] 24)).alloc (.cells #[.int .i64 nil0.c, .int .i64 nil0.s, .int .i64 nil0.mn, .int .i64 nil0.mx] 24)
          rw [show ofL [] = ⟨0, 0, 0, 0⟩ from rfl]
          dsimp only
          go_wp2
          go_ret
          exact ⟨rfl, hK⟩
        · have hpos : 0 < j := by omega
          have hsh := shf zs d hd (by rw [HLN.out]; omega) (by rw [HLN.out]; exact hpos)
          rw [HLN.out] at hsh
          have HC1 := Lib.hid (of_any B j c _ wr HO.out.lies (by omega))
          have HC2 := Lib.hid (fun (w2 : World) (hk2 : Keep wr w2) => of_any D j e _ w2 (HO.out.up hk2).swap.lies (by omega))
          have hmb := mul_bd hd (show j ≤ 300 by omega)
          have hwm : wrap64 (d * (j : Int)) = d * (j : Int) := wr_id (by unfold inI; omega)
          generalize ofL (sml 1099511627776 zs) = x at *
          generalize ofL (sft d (sml 1099511627776 zs)) = y at *
          have hx1 : decide (x.c < 1) = false := by have := hsh.xc; simp; omega
          have hy1 : decide (y.c < 1) = false := by have := hsh.xc; have := hsh.c; simp; omega
          have HXY := Lib.hid (And.intro hsh (And.intro hx1 hy1))
          have haa := hsh.av
          generalize hax : avg x = ax at *
          generalize hay : avg y = ay at *
          have HAV := Lib.hid (And.intro hax (And.intro hay haa))
          have HWM := Lib.hid hwm
          clear hsh hx1 hy1 hmb hax hay haa hwm
          go_wp2_with fail
          go_at_call 13
          refine HC1.out.mono ?_
          rintro e w2 ⟨rfl, hk2⟩
          go_wp2_with fail
          go_at_call 13
          refine (HC2.out _ hk2).mono ?_
          rintro e w3 ⟨rfl, hk3⟩
          have hK := ((((hk1.trans HO.out.keep).trans hk2).trans hk3).alloc (.cells #[.int .i64 x.c, .int .i64 x.s, .int .i64 x.mn, .int .i64 x.mx] 24)).alloc (.cells #[.int .i64 y.c, .int .i64 y.s, .int .i64 y.mn, .int .i64 y.mx] 24)
          obtain ⟨hX, hY⟩ := two_at w3 x y
          clear HC1 HC2 hk2 hk3
          go_wp2_with fail
          go_at_call 9
          generalize (w3.alloc (.cells #[.int .i64 x.c, .int .i64 x.s, .int .i64 x.mn, .int .i64 x.mx] 24)).alloc (.cells #[.int .i64 y.c, .int .i64 y.s, .int .i64 y.mn, .int .i64 y.mx] 24) = W3 at *
          have HX := Lib.hid hX
          have HY := Lib.hid hY
          clear hX hY
          have g1 := avg_any x W3 HXY.out.1.xo true HXY.out.2.1
          rw [HAV.out.1] at g1
          refine g1.mono ?_
          rintro e w4 ⟨rfl, hk4⟩
          clear g1
          obtain ⟨b0, b1, b2, b3⟩ := (HY.out.keep hk4).cells
          go_wp2_with fail
          go_at_call 9
          have g1 := avg_any y w4 HXY.out.1.yo true HXY.out.2.2
          rw [HAV.out.2.1] at g1
          refine g1.mono ?_
          rintro e w5 ⟨rfl, hk5⟩
          clear g1 b0 b1 b2 b3
          replace hk5 := hk4.trans hk5
          obtain ⟨a0, a1, a2, a3⟩ := (HX.out.keep hk5).cells
          obtain ⟨b0, b1, b2, b3⟩ := (HY.out.keep hk5).cells
          have hcc := HXY.out.1.c
          have hss := HXY.out.1.s
          have hnn := HXY.out.1.mn
          have hxx := HXY.out.1.mx
          have haa := HAV.out.2.2
          have hwm := HWM.out
          go_wp2
          go_ret
          exact ⟨rfl, hK.trans hk5⟩

theorem AggShifts_std (A : Option Addr) (len cap : Nat) (zs : List Int) (v : Int) (_ : (Lit.int .i64 v).wf = true) (w : World) (row : Arr .i64 w A len zs) :
    Calls Try.prog 5 #[.slice A len cap, .int .i64 v] w fun e w' => e = .returned (.bool true) ∧ Below w.heap.size w w' := shifts_law A len cap zs v w row
end Go.Proofs.Ytglokhpgjfoneac
