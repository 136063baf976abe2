/- AggKinds: the numbers by their kinds are those of the whole. -/
import Derived.Test.YtglokhpgjfoneacAggSmall
namespace Go.Proofs.Ytglokhpgjfoneac
open Go.RowKit

theorem pick_is (a : Ag) (k v : Int) (b : Bool) (w : World) (ha : a.ok) (hv : pkV a k = v) (hb : pkB a k = b) :
    Calls Try.prog 11 #[.agg #[.int .i64 a.c, .int .i64 a.s, .int .i64 a.mn, .int .i64 a.mx], .int .i64 k] w fun e w' => e = .returned (.tuple #[.int .i64 v, .bool b]) ∧ Keep w w' := hv ▸ hb ▸ pick_any a k w ha

theorem one_kinds (v : Int) (k : Nat) (h1 : 1 ≤ k) (h4 : k ≤ 4) : pkV (one1 v) k = v ∧ pkB (one1 v) k = true := by
  rcases (show k = 1 ∨ k = 2 ∨ k = 3 ∨ k = 4 by omega) with rfl | rfl | rfl | rfl <;> simp [pkV, pkB, one1, avg]
theorem pk_none (a : Ag) (k : Int) (h : k < 0 ∨ 4 < k) : pkV a k = 0 ∧ pkB a k = false := by
  have e0 : ¬ k = 0 := by omega
  have e1 : ¬ k = 1 := by omega
  have e2 : ¬ k = 2 := by omega
  have e3 : ¬ k = 3 := by omega
  have e4 : ¬ k = 4 := by omega
  simp [pkV, pkB, e0, e1, e2, e3, e4]

set_option maxRecDepth 100000 in
set_option maxHeartbeats 4000000 in
theorem kinds_law (A : Option Addr) (n cap : Nat) (zs : List Int) (v : Int) (w : World) (row : Arr .i64 w A n zs) (hv : inI v) :
    Calls Try.prog 6 #[.slice A n cap, .int .i64 v] w fun e w' => e = .returned (.bool true) ∧ Keep w w' := by
  obtain ⟨hml, hL, -⟩ := row
  unfold maxLen at hml
  by_cases h3 : 300 < n
  · clear hL
    go_enter Try.func6, Try.ntmps6
    go_wp2_with (go_at_call 8; refine (alive_any _).mono ?_; rintro e w1 ⟨rfl, hk1⟩)
    go_ret
    exact ⟨rfl, hk1⟩
  · obtain ⟨i0, hi, hz0, hz1, hz2⟩ := info_parts infoI64
    have hl : zs.length = n := by have := hL.1; rwa [vals_length] at this
    have HLN := Lib.hid hl
    have HL := Lib.hid hL
    have hn3 : (n : Int) ≤ 300 := by omega
    have hM : (1125899906842624 : Int) ≠ 0 := by decide
    clear hL hl hml
    go_enter Try.func6, Try.ntmps6
    go_wp2_with (go_at_call 8; refine (alive_any _).mono ?_; rintro e w1 ⟨rfl, hk1⟩)
    go_loopw [5, 36] (fun s i wr => ∃ (j : Nat) (B : Option Addr) (c : Nat), j ≤ n ∧ i = .int .i64 j ∧ s = .slice B j c ∧ OwnL w1.heap.size w1 wr B j c ((sml 1125899906842624 zs).take j)) (fun s i _ => n - (intOf i).toNat)
    case atStart => exact ⟨0, _, 0, Nat.zero_le _, rfl, rfl, OwnL.new w1⟩
    case round =>
      obtain ⟨j, B, c, hj, rfl, rfl, hO⟩ := hrel
      by_cases hlt : j < n
      · obtain ⟨x, hx⟩ : ∃ x, zs[j]? = some x := ⟨_, List.getElem?_eq_getElem (by rw [HLN.out]; exact hlt)⟩
        obtain ⟨b, off, e, hb, hc⟩ := (HL.out.up (hk1.trans hO.keep)).2 (by omega)
        subst e
        have c0 : wr.cell? ⟨b, off + j, none⟩ = some (.int .i64 x) := by rw [hc j hlt, vals_get hx]
        have HT := Lib.hid (sml_take (M := 1125899906842624) hx)
        have HO := Lib.hid hO
        have hs := hO.keep.size
        have hjm : (j : Int) < (n : Int) := by omega
        clear hc hx hO
        go_wp2_with (at_builtin; refine wpList_append_from rfl _ _ 22 rfl w1.heap.size 2 i0 (.int .i64 0) 8 Try.underlying22 hi hz0 hz1 hz2 rfl _ j _ rfl (HO.out.row.alloc _) _ (some ⟨wr.heap.size, 0, none⟩) 1 1 [.int .i64 (x.tmod 1125899906842624)] rfl (one_lies _ _ _) (fun h => by cases h) (by simp [Value.oneCell']) (by unfold maxLen; omega) (by omega) (by simp; omega) ?_; intro A5 c5 w5 hown5 hgrow5 _)
        have hO5 := HO.out.grown _ hown5 hgrow5
        rw [HT.out] at hO5
        go_wp2_with fail
        go_roundw
        case rel => exact ⟨j + 1, A5, c5, hlt, by go_num, rfl, hO5⟩
        case measure => simp [intOf]; omega
      · obtain rfl : j = n := by omega
        have hf : (sml 1125899906842624 zs).take j = sml 1125899906842624 zs := List.take_of_length_le (by rw [sml_len, HLN.out]; exact Nat.le_refl _)
        rw [hf] at hO
        have hsl := sml_len 1125899906842624 zs
        have hin := sml_in (M := 1125899906842624) (zs := zs) (by decide) (by decide)
        rw [HLN.out] at hsl
        have hof := isOf (sml 1125899906842624 zs) (by omega) hin
        have hok := ofL_ok _ hin
        have HC := Lib.hid (of_any B j c (sml 1125899906842624 zs) wr hO.lies (by omega))
        obtain ⟨a, ha⟩ : ∃ a, ofL (sml 1125899906842624 zs) = a := ⟨_, rfl⟩
        rw [ha] at hof hok HC
        have hac : a.c = j := by rw [hof.c, hsl]
        have hmm : decide (a.mn > a.mx) = false := by
          by_cases h0 : sml 1125899906842624 zs = []
          · rw [hof.none h0]; rfl
          · have := hof.lo _ (hof.mx h0)
            simp; omega
        have HK := Lib.hid (hk1.trans hO.keep)
        have HOK := Lib.hid hok
        have h0V : pkV a 0 = j := by rw [← hac]; rfl
        clear hf hsl hin hof hok ha hO
        obtain ⟨bs, hbs⟩ : ∃ bs, decide (0 < j) = bs := ⟨_, rfl⟩
        have hP2 : pkB a 2 = bs ∧ pkB a 3 = bs ∧ pkB a 4 = bs := by
          rw [← hbs]
          unfold pkB
          by_cases hj0 : j = 0
          · have : a.c < 1 := by omega
            simp [this, hj0]
          · have : ¬ a.c < 1 := by omega
            simp [this]; omega
        have hP3 : decide (pkV a 3 > pkV a 4) = false := by
          unfold pkV
          by_cases hj0 : a.c < 1
          · simp [hj0]
          · simp [hj0]; simpa using hmm
        have hbs2 : decide ((0 : Int) < (j : Int)) = bs := by rw [← hbs]; simp
        have HP := Lib.hid (And.intro h0V hP2)
        obtain ⟨lo, hlo⟩ : ∃ lo, pkV a 3 = lo := ⟨_, rfl⟩
        obtain ⟨hi4, hhi⟩ : ∃ hi4, pkV a 4 = hi4 := ⟨_, rfl⟩
        rw [hlo, hhi] at hP3
        have HLH := Lib.hid (And.intro hlo hhi)
        have HAC := Lib.hid hac
        clear h0V hP2 hbs hlo hhi hmm hac
        go_wp2_with fail
        go_at_call 13
        refine HC.out.mono ?_
        rintro e w2 ⟨rfl, hk2⟩
        have HN := Lib.hid (AgAt.new w2 a)
        have hK := (HK.out.trans hk2).alloc (.cells #[.int .i64 a.c, .int .i64 a.s, .int .i64 a.mn, .int .i64 a.mx] 24)
        clear HC HK hk2
        go_wp2_with fail
        go_at_call 11
        generalize w2.alloc (.cells #[.int .i64 a.c, .int .i64 a.s, .int .i64 a.mn, .int .i64 a.mx] 24) = W2 at *
        refine (pick_is a 0 j true _ HOK.out HP.out.1 rfl).mono ?_
        rintro e w3 ⟨rfl, hk3⟩
        obtain ⟨a0, a1, a2, a3⟩ := (HN.out.keep hk3).cells
        go_wp2_with fail
        go_at_call 11
        refine (pick_is a 1 a.s true _ HOK.out rfl rfl).mono ?_
        rintro e w4 ⟨rfl, hk4⟩
        replace hk4 := hk3.trans hk4
        clear a0 a1 a2 a3 hk3
        obtain ⟨a0, a1, a2, a3⟩ := (HN.out.keep hk4).cells
        go_wp2_with fail
        go_at_call 11
        refine (pick_is a 2 (pkV a 2) bs _ HOK.out rfl HP.out.2.1).mono ?_
        rintro e w5 ⟨rfl, hk5⟩
        replace hk5 := hk4.trans hk5
        clear a0 a1 a2 a3 hk4
        obtain ⟨a0, a1, a2, a3⟩ := (HN.out.keep hk5).cells
        go_wp2_with fail
        go_at_call 11
        refine (pick_is a 3 lo bs _ HOK.out HLH.out.1 HP.out.2.2.1).mono ?_
        rintro e w6 ⟨rfl, hk6⟩
        replace hk6 := hk5.trans hk6
        clear a0 a1 a2 a3 hk5
        obtain ⟨a0, a1, a2, a3⟩ := (HN.out.keep hk6).cells
        go_wp2_with fail
        go_at_call 11
        refine (pick_is a 4 hi4 bs _ HOK.out HLH.out.2 HP.out.2.2.2).mono ?_
        rintro e w7 ⟨rfl, hk7⟩
        replace hk7 := hk6.trans hk7
        clear a0 a1 a2 a3 hk6
        obtain ⟨a0, a1, a2, a3⟩ := (HN.out.keep hk7).cells
        cases bs
        · have hj0 : j = 0 := by simpa using hbs2
          subst hj0
          clear hbs2
          go_wp2_with fail
          go_at_call 17
          refine (one_any v _).mono ?_
          rintro e w8 ⟨rfl, hk8⟩
          have HM := Lib.hid (AgAt.new w8 (one1 v))
          have hK8 := (hK.trans (hk7.trans hk8)).alloc (.cells #[.int .i64 (one1 v).c, .int .i64 (one1 v).s, .int .i64 (one1 v).mn, .int .i64 (one1 v).mx] 24)
          have HN8 := Lib.hid (HN.out.keep ((hk7.trans hk8).alloc (.cells #[.int .i64 (one1 v).c, .int .i64 (one1 v).s, .int .i64 (one1 v).mn, .int .i64 (one1 v).mx] 24)))
          clear a0 a1 a2 a3 hk7 hk8
          go_wp2_with fail
          generalize w8.alloc (.cells #[.int .i64 (one1 v).c, .int .i64 (one1 v).s, .int .i64 (one1 v).mn, .int .i64 (one1 v).mx] 24) = W8 at *
          go_loopw [21] (fun i wr => ∃ (k : Nat), 1 ≤ k ∧ k ≤ 5 ∧ i = .int .i64 k ∧ Keep W8 wr) (fun i _ => 5 - (intOf i).toNat)
          case atStart => exact ⟨1, by decide, by decide, rfl, Keep.refl _⟩
          case round =>
            obtain ⟨k, hk0, hk5, rfl, hkr⟩ := hrel
            by_cases hlt4 : k < 5
            · have hpv : pkV (one1 v) k = v ∧ pkB (one1 v) k = true := one_kinds v k hk0 (by omega)
              have HPV := Lib.hid hpv
              have hk4 : (k : Int) ≤ 4 := by omega
              clear hpv
              obtain ⟨a0, a1, a2, a3⟩ := (HM.out.keep hkr).cells
              go_wp2_with fail
              go_at_call 11
              refine (pick_is (one1 v) k v true _ (one1_ok hv) HPV.out.1 HPV.out.2).mono ?_
              rintro e w9 ⟨rfl, hk9⟩
              go_wp2_with fail
              go_roundw
              case rel => exact ⟨k + 1, by omega, by omega, by go_num, hkr.trans hk9⟩
              case measure => simp [intOf]; omega
            · obtain rfl : k = 5 := by omega
              clear hk0 hk5 hlt4
              obtain ⟨a0, a1, a2, a3⟩ := (HN8.out.keep hkr).cells
              have h5 := pk_none a 5 (by decide)
              have h6 := pk_none a (-1) (by decide)
              have H56 := Lib.hid (And.intro h5 h6)
              clear h5 h6
              go_wp2_with fail
              go_at_call 11
              refine (pick_is a 5 0 false _ HOK.out H56.out.1.1 H56.out.1.2).mono ?_
              rintro e w9 ⟨rfl, hk9⟩
              replace hk9 := hkr.trans hk9
              clear a0 a1 a2 a3 hkr
              obtain ⟨a0, a1, a2, a3⟩ := (HN8.out.keep hk9).cells
              go_wp2_with fail
              go_at_call 11
              refine (pick_is a (-1) 0 false _ HOK.out H56.out.2.1 H56.out.2.2).mono ?_
              rintro e w10 ⟨rfl, hk10⟩
              replace hk10 := hk9.trans hk10
              clear a0 a1 a2 a3 hk9
              go_wp2
              go_ret
              exact ⟨rfl, hK8.trans hk10⟩
        · have hpos : 0 < j := by simpa using hbs2
          clear hbs2
          go_wp2_with fail
          go_at_call 17
          refine (one_any v _).mono ?_
          rintro e w8 ⟨rfl, hk8⟩
          have HM := Lib.hid (AgAt.new w8 (one1 v))
          have hK8 := (hK.trans (hk7.trans hk8)).alloc (.cells #[.int .i64 (one1 v).c, .int .i64 (one1 v).s, .int .i64 (one1 v).mn, .int .i64 (one1 v).mx] 24)
          have HN8 := Lib.hid (HN.out.keep ((hk7.trans hk8).alloc (.cells #[.int .i64 (one1 v).c, .int .i64 (one1 v).s, .int .i64 (one1 v).mn, .int .i64 (one1 v).mx] 24)))
          clear a0 a1 a2 a3 hk7 hk8
          go_wp2_with fail
          generalize w8.alloc (.cells #[.int .i64 (one1 v).c, .int .i64 (one1 v).s, .int .i64 (one1 v).mn, .int .i64 (one1 v).mx] 24) = W8 at *
          go_loopw [21] (fun i wr => ∃ (k : Nat), 1 ≤ k ∧ k ≤ 5 ∧ i = .int .i64 k ∧ Keep W8 wr) (fun i _ => 5 - (intOf i).toNat)
          case atStart => exact ⟨1, by decide, by decide, rfl, Keep.refl _⟩
          case round =>
            obtain ⟨k, hk0, hk5, rfl, hkr⟩ := hrel
            by_cases hlt4 : k < 5
            · have hpv : pkV (one1 v) k = v ∧ pkB (one1 v) k = true := one_kinds v k hk0 (by omega)
              have HPV := Lib.hid hpv
              have hk4 : (k : Int) ≤ 4 := by omega
              clear hpv
              obtain ⟨a0, a1, a2, a3⟩ := (HM.out.keep hkr).cells
              go_wp2_with fail
              go_at_call 11
              refine (pick_is (one1 v) k v true _ (one1_ok hv) HPV.out.1 HPV.out.2).mono ?_
              rintro e w9 ⟨rfl, hk9⟩
              go_wp2_with fail
              go_roundw
              case rel => exact ⟨k + 1, by omega, by omega, by go_num, hkr.trans hk9⟩
              case measure => simp [intOf]; omega
            · obtain rfl : k = 5 := by omega
              clear hk0 hk5 hlt4
              obtain ⟨a0, a1, a2, a3⟩ := (HN8.out.keep hkr).cells
              have h5 := pk_none a 5 (by decide)
              have h6 := pk_none a (-1) (by decide)
              have H56 := Lib.hid (And.intro h5 h6)
              clear h5 h6
              go_wp2_with fail
              go_at_call 11
              refine (pick_is a 5 0 false _ HOK.out H56.out.1.1 H56.out.1.2).mono ?_
              rintro e w9 ⟨rfl, hk9⟩
              replace hk9 := hkr.trans hk9
              clear a0 a1 a2 a3 hkr
              obtain ⟨a0, a1, a2, a3⟩ := (HN8.out.keep hk9).cells
              go_wp2_with fail
              go_at_call 11
              refine (pick_is a (-1) 0 false _ HOK.out H56.out.2.1 H56.out.2.2).mono ?_
              rintro e w10 ⟨rfl, hk10⟩
              replace hk10 := hk9.trans hk10
              clear a0 a1 a2 a3 hk9
              go_wp2
              go_ret
              exact ⟨rfl, hK8.trans hk10⟩

theorem AggKinds_std (A : Option Addr) (len cap : Nat) (zs : List Int) (v : Int) (hv : (Lit.int .i64 v).wf = true) (w : World) (row : Arr .i64 w A len zs) :
    Calls Try.prog 6 #[.slice A len cap, .int .i64 v] w fun e w' => e = .returned (.bool true) ∧ Below w.heap.size w w' := kinds_law A len cap zs v w row (inI_of hv)
end Go.Proofs.Ytglokhpgjfoneac
