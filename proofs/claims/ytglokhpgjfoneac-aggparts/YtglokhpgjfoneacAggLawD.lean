/- AggParts: in whichever order, and in whichever parts, values are told the same. -/
import Derived.Test.YtglokhpgjfoneacAggTwo
import Derived.Test.YtglokhpgjfoneacAggMade
namespace Go.Proofs.Ytglokhpgjfoneac
open Go.RowKit

theorem wpAnyH_named {P : Program} {md : Region.Mode} {ops : Array Oper} {Q : Exit → Act → World → Prop} {S : World → Prop} {fuel : Nat} {listed : Array Bool} {a : Act} {w : World} (h : ∀ a0, a0 = a → wpAnyH P md ops Q S fuel listed a0 w) : wpAnyH P md ops Q S fuel listed a w := h a rfl
theorem merge_is (a b v : Ag) (w : World) (h : mrg a b = v) : Calls Try.prog 15 #[.agg #[.int .i64 a.c, .int .i64 a.s, .int .i64 a.mn, .int .i64 a.mx], .agg #[.int .i64 b.c, .int .i64 b.s, .int .i64 b.mn, .int .i64 b.mx]] w fun e w' => e = .returned (.agg #[.int .i64 v.c, .int .i64 v.s, .int .i64 v.mn, .int .i64 v.mx]) ∧ Keep w w' := h ▸ merge_any a b w
theorem merge_nil (a : Ag) (w : World) (h : mrg a nil0 = a) : Calls Try.prog 15 #[.agg #[.int .i64 a.c, .int .i64 a.s, .int .i64 a.mn, .int .i64 a.mx], .agg #[.int .i64 0, .int .i64 0, .int .i64 0, .int .i64 0]] w fun e w' => e = .returned (.agg #[.int .i64 a.c, .int .i64 a.s, .int .i64 a.mn, .int .i64 a.mx]) ∧ Keep w w' := merge_is a nil0 a w h
theorem avg_is (a : Ag) (v : Int) (b : Bool) (w : World) (ha : a.ok) (h : decide (a.c < 1) = !b) (hv : avg a = v) : Calls Try.prog 9 #[.agg #[.int .i64 a.c, .int .i64 a.s, .int .i64 a.mn, .int .i64 a.mx]] w fun e w' => e = .returned (.tuple #[.int .i64 v, .bool b]) ∧ Keep w w' := hv ▸ avg_any a w ha b h
theorem sm_lo {m : Int} (xs : List Int) (h : ∀ z ∈ xs, m ≤ z) : m * xs.length ≤ sm xs := by
  induction xs with
  | nil => simp [sm]
  | cons x xs ih =>
    have h1 := ih (fun z hz => h z (by simp [hz]))
    have h2 := h x (by simp)
    rw [sm, List.length_cons, show ((xs.length + 1 : Nat) : Int) = (xs.length : Int) + 1 by omega, Int.mul_add]
    omega
theorem sm_hi {m : Int} (xs : List Int) (h : ∀ z ∈ xs, z ≤ m) : sm xs ≤ m * xs.length := by
  induction xs with
  | nil => simp [sm]
  | cons x xs ih =>
    have h1 := ih (fun z hz => h z (by simp [hz]))
    have h2 := h x (by simp)
    rw [sm, List.length_cons, show ((xs.length + 1 : Nat) : Int) = (xs.length : Int) + 1 by omega, Int.mul_add]
    omega
/-- What the average is, of small values. -/
structure AvgF (x : Ag) (n : Nat) (av : Int) : Prop where
  lo : decide (av ≥ x.mn) = true
  hi : decide (av ≤ x.mx) = true
  s1 : decide (wrap64 (av * n) ≤ x.s) = true
  s2 : decide (x.s < wrap64 (wrap64 (av + 1) * n)) = true
  s3 : decide (x.s < wrap64 ((av + 1) * n)) = true
theorem avg_f {xs : List Int} (hn : xs.length ≤ 300) (h0 : 0 < xs.length) (hin : ∀ z ∈ xs, inI z) (hbd : ∀ z ∈ xs, -1125899906842624 < z ∧ z < 1125899906842624) : AvgF (ofL xs) xs.length (avg (ofL xs)) := by
  have hne : xs ≠ [] := fun e => by rw [e] at h0; simp at h0
  have hof := isOf xs (by omega) hin
  have hsb := sm_bd (M := 1125899906842624) xs (fun z hz => by have := hbd z hz; omega)
  have hn3 : (xs.length : Int) ≤ 300 := by omega
  have hs : (ofL xs).s = sm xs := by rw [hof.s, wr_id (by unfold inI; omega)]
  have hlo := sm_lo xs hof.lo
  have hhi := sm_hi xs hof.hi
  have hmn := hbd _ (hof.mn hne)
  have hmx := hbd _ (hof.mx hne)
  have hc := hof.c
  generalize ofL xs = a at *
  have hp : (0 : Int) < xs.length := by omega
  have hav : avg a = sm xs / xs.length := by rw [← hs, ← hc]; exact if_neg (by omega)
  have e1 : a.mn ≤ avg a := by rw [hav, Int.le_ediv_iff_mul_le hp]; exact hlo
  have e2 : avg a ≤ a.mx := by
    have : sm xs / xs.length < a.mx + 1 := by
      rw [Int.ediv_lt_iff_lt_mul hp, Int.add_mul]
      omega
    rw [hav]; omega
  have e3 : avg a * xs.length ≤ sm xs := by rw [hav]; exact Int.ediv_mul_le _ (by omega)
  have e4 : sm xs < (avg a + 1) * xs.length := by rw [hav]; exact Int.lt_ediv_add_one_mul_self _ hp
  have e5 : (avg a + 1) * xs.length = avg a * xs.length + xs.length := by rw [Int.add_mul, Int.one_mul]
  generalize avg a = av at *
  have e6 : -(1125899906842624 * (xs.length : Int)) ≤ av * xs.length := by
    have : -1125899906842624 * (xs.length : Int) ≤ av * xs.length := Int.mul_le_mul_of_nonneg_right (by omega) (by omega)
    omega
  have w1 : wrap64 (av * xs.length) = av * xs.length := wr_id (by unfold inI; omega)
  have w2 : wrap64 (av + 1) = av + 1 := wr_id (by unfold inI; omega)
  have w3 : wrap64 ((av + 1) * xs.length) = (av + 1) * xs.length := wr_id (by unfold inI; omega)
  rw [← hs] at e3 e4
  refine ⟨decide_eq_true e1, decide_eq_true e2, ?_, ?_, ?_⟩
  · rw [w1]; exact decide_eq_true e3
  · rw [w2, w3]; exact decide_eq_true e4
  · rw [w3]; exact decide_eq_true e4
theorem own_some {w : World} {base n c : Nat} {A : Option Addr} {xs : List Value} (h : w.ownsRow base 2 1 (.slice A (n + 1) c) (n + 1) xs) : ∃ g, A = some ⟨g, 0, none⟩ := by
  rcases h.2 with ⟨e, _⟩ | ⟨g, cap, cur, e, _⟩
  · cases e
  · cases e; exact ⟨g, rfl⟩
theorem own_cap {w : World} {base n c : Nat} {A : Option Addr} {xs : List Value} (h : w.ownsRow base 2 1 (.slice A n c) n xs) : n ≤ c := by
  rcases h.2 with ⟨e, _⟩ | ⟨g, cap, cur, e, _, _, hle, _⟩
  · cases e; exact Nat.le_refl _
  · cases e; exact hle
theorem rev_step {xs : List Int} {k : Nat} {x : Int} (h : xs[k]? = some x) : (xs.drop (k + 1)).reverse ++ [x] = (xs.drop k).reverse := by
  have hk := (List.getElem?_eq_some_iff.1 h).1
  have e : xs.drop k = x :: xs.drop (k + 1) := by
    rw [List.drop_eq_getElem_cons hk]
    congr 1
    exact (List.getElem?_eq_some_iff.1 h).2
  rw [e, List.reverse_cons]
theorem and_bd (z : Int) : 0 ≤ bits BinOp.and IntKind.i64 z 511 ∧ bits BinOp.and IntKind.i64 z 511 ≤ 511 := by
  have e1 : (BitVec.ofInt 64 z &&& BitVec.ofInt 64 511).toNat ≤ 511 := by
    rw [BitVec.toNat_and]
    exact Nat.le_trans Nat.and_le_right (by decide)
  show 0 ≤ IntKind.i64.wrap ((BitVec.ofInt 64 z &&& BitVec.ofInt 64 511).toNat : Int) ∧ IntKind.i64.wrap ((BitVec.ofInt 64 z &&& BitVec.ofInt 64 511).toNat : Int) ≤ 511
  generalize (BitVec.ofInt 64 z &&& BitVec.ofInt 64 511).toNat = y at *
  rw [IntKind.wrap_i64]
  omega

set_option maxRecDepth 100000 in
set_option maxHeartbeats 4000000 in
theorem parts_law (A : Option Addr) (n cap : Nat) (zs : List Int) (cut : Int) (w : World) (row : Arr .i64 w A n zs) :
    Calls Try.prog 4 #[.slice A n cap, .int .i64 cut] w fun e w' => e = .returned (.bool true) ∧ Keep w w' := by
  obtain ⟨hml, hL, -⟩ := row
  unfold maxLen at hml
  by_cases h3 : 300 < n
  · clear hL
    go_enter Try.func4, Try.ntmps4
    go_wp2_with (go_at_call 8; refine (alive_any _).mono ?_; rintro e w1 ⟨rfl, hk1⟩)
    go_ret
    exact ⟨rfl, hk1⟩
  · obtain ⟨i0, hi, hz0, hz1, hz2⟩ := info_parts infoI64
    have hl : zs.length = n := by have := hL.1; rwa [vals_length] at this
    have HLN := Lib.hid hl
    have HL := Lib.hid hL
    have hn3 : (n : Int) ≤ 300 := by omega
    have hM : (1125899906842624 : Int) ≠ 0 := by decide
    clear hL hl hml
    go_enter Try.func4, Try.ntmps4
    go_wp2_with (go_at_call 8; refine (alive_any _).mono ?_; rintro e w1 ⟨rfl, hk1⟩)
    go_loopw [5, 25] (fun s i wr => ∃ (j g c : Nat), j ≤ n ∧ i = .int .i64 j ∧ s = .slice (some ⟨g, 0, none⟩) j c ∧ TwoL w1 wr (some ⟨g, 0, none⟩) j c ((sml 1125899906842624 zs).take j) (some ⟨w1.heap.size + 1, 0, none⟩) 0 0 []) (fun s i _ => n - (intOf i).toNat)
    case atStart => exact ⟨0, _, 0, Nat.zero_le _, rfl, rfl, TwoL.new w1⟩
    case round =>
      obtain ⟨j, g, c, hj, rfl, rfl, hO⟩ := hrel
      by_cases hlt : j < n
      · obtain ⟨x, hx⟩ : ∃ x, zs[j]? = some x := ⟨_, List.getElem?_eq_getElem (by rw [HLN.out]; exact hlt)⟩
        obtain ⟨b, off, ea, hb, hc⟩ := (HL.out.up (hk1.trans hO.keep)).2 (by omega)
        subst ea
        have c0 : wr.cell? ⟨b, off + j, none⟩ = some (.int .i64 x) := by rw [hc j hlt, vals_get hx]
        have HT := Lib.hid (sml_take (M := 1125899906842624) hx)
        have HO := Lib.hid hO
        have hs := hO.keep.size
        have hjm : (j : Int) < (n : Int) := by omega
        clear hc hx hO
        go_wp2_with (at_builtin; refine wpList_append_from rfl _ _ 22 rfl w1.heap.size 2 i0 (.int .i64 0) 8 Try.underlying22 hi hz0 hz1 hz2 rfl (.slice (some ⟨g, 0, none⟩) j c) j _ rfl (HO.out.ra.alloc _) _ (some ⟨wr.heap.size, 0, none⟩) 1 1 [.int .i64 (x.tmod 1125899906842624)] rfl (one_lies _ _ _) (fun h => by cases h) (by simp [Value.oneCell']) (by unfold maxLen; omega) (by omega) (by simp; omega) ?_; intro A5 c5 w5 hown5 hgrow5 hat5)
        obtain ⟨g5, rfl⟩ := own_some hown5
        have hO5 := HO.out.grown _ hown5 hgrow5 hat5
        rw [HT.out] at hO5
        clear hown5 hgrow5 hat5
        go_wp2_with fail
        go_roundw
        case rel => exact ⟨j + 1, g5, c5, hlt, by go_num, rfl, hO5⟩
        case measure => simp [intOf]; omega
      · obtain rfl : j = n := by omega
        have hf : (sml 1125899906842624 zs).take j = sml 1125899906842624 zs := List.take_of_length_le (by rw [sml_len, HLN.out]; exact Nat.le_refl _)
        rw [hf] at hO
        have hsl := sml_len 1125899906842624 zs
        rw [HLN.out] at hsl
        have hin := sml_in (M := 1125899906842624) (zs := zs) (by decide) (by decide)
        have hbd := sml_bd (M := 1125899906842624) (zs := zs) (by decide)
        generalize sml 1125899906842624 zs = xs at *
        have HB := Lib.hid (And.intro hin hbd)
        have HXL := Lib.hid hsl
        have HO1 := Lib.hid hO
        have hcap := own_cap hO.ra
        clear hf hsl hin hbd hj hlt
        generalize hD : (some ⟨w1.heap.size + 1, 0, none⟩ : Option Addr) = D0 at *
        go_wp2_with fail
        go_loopw [6, 9] (fun t i ws => ∃ (k : Nat) (D : Option Addr) (e : Nat), k ≤ j ∧ i = .int .i64 ((k : Int) - 1) ∧ t = .slice D (j - k) e ∧ TwoL w1 ws (some ⟨g, 0, none⟩) j c xs D (j - k) e (xs.drop k).reverse) (fun t i _ => (intOf i + 1).toNat)
        case atStart => exact ⟨j, D0, 0, Nat.le_refl _, rfl, by rw [Nat.sub_self], by rw [Nat.sub_self, List.drop_eq_nil_of_le (by rw [HXL.out]; exact Nat.le_refl _)]; exact hO⟩
        case round =>
          obtain ⟨k, D, e, hk, rfl, rfl, hO2⟩ := hrel
          clear hO
          by_cases hk0 : k = 0
          · subst hk0
            rw [Nat.sub_zero, List.drop_zero] at hO2
            rw [Nat.sub_zero, show ((0 : Nat) : Int) - 1 = -1 from rfl]
            have HO := Lib.hid hO2
            clear hO2 HO1 hk
            obtain ⟨kk, hkk, hkj⟩ : ∃ kk : Nat, (bits BinOp.and IntKind.i64 cut 511).tmod ((j : Int) + 1) = kk ∧ kk ≤ j := by
              obtain ⟨h1, h2⟩ := and_bd cut
              have h4 := Int.tmod_nonneg ((j : Int) + 1) h1
              have h5 := Int.tmod_lt_of_pos (bits BinOp.and IntKind.i64 cut 511) (show (0 : Int) < (j : Int) + 1 by omega)
              exact ⟨((bits BinOp.and IntKind.i64 cut 511).tmod ((j : Int) + 1)).toNat, by omega, by omega⟩
            have hne : ¬ ((j : Int) + 1 = 0) := by omega
            go_wp2_with fail
            have hkc : kk ≤ c := by omega
            have hkci : (kk : Int) ≤ (c : Int) := by omega
            have hkji : (kk : Int) ≤ (j : Int) := by omega
            have hjci : (j : Int) ≤ (c : Int) := by omega
            by_cases hfull : kk = c
            · have hq1 : j = kk := by omega
              have hq2 : j = c := by omega
              clear hfull hkj hkji hkc hkci hjci hcap
              subst hq1
              subst hq2
              have hKc : Keep wr wr.drew := (Keep.refl wr).drew
              refine seqE_region (S := fun w' => Keep wr w') [⟨0, 32, 36028797018963968⟩, ⟨1, 36028797018963968, 72057594037927936⟩, ⟨0, 32, 144115188075855872⟩, ⟨0, 2, 288230376151711744⟩, ⟨12, 432345564227567616, 576460752303423488⟩, ⟨18, 576460752303423488, 1152921504606846976⟩, ⟨0, 32, 2305843009213693952⟩, ⟨0, 2, 4611686018427387904⟩, ⟨192, 6917529027641081856, 9223372036854775808⟩, ⟨288, 9223372036854775808, 18446744073709551616⟩, ⟨0, 0, 1024⟩, ⟨0, 0, 2048⟩, ⟨0, 0, 4096⟩, ⟨7683, 72057594037928960, 0⟩, ⟨15423, 1152921504606849024, 0⟩, ⟨32767, 18446744073709555712, 0⟩] [(0, false), (2, false), (3, false), (4, false), (6, false), (7, false), (8, false)] rfl (by kernel_rfl) (by kernel_rfl) (fun _ _ d _ _ h => by cases d <;> exact h) hKc ?_
              simp only [rowsOf, rowAt, gslot, List.map_cons, List.map_nil, List.getElem?_toArray, List.getElem?_cons_zero, List.getElem?_cons_succ]
              repeat (first
                | (refine seqE_take (v := ?_) (a' := ?_) (by rfl) ?_ ?_ ?_
                   rotate_left 2
                   · (intro w hSw; go_simp; with_reducible rfl)
                   · (simp only [Act.put, List.setIfInBounds_toArray, List.set_cons_zero, List.set_cons_succ]; with_reducible rfl)))
              refine seqE_nil ?_
              intro hKd listed hLs hns
              refine wpAnyH_named (fun a0 ha0 => ?_)
              have HA0 := Lib.hid ha0
              have hs0 : a0.tmps.size = 142 := by rw [ha0]; rfl
              have ev1 : a0.eval (.tmp 55) = .slice (some ⟨g, 0, none⟩) j j := by rw [ha0]; rfl
              have ev5 : a0.eval (.tmp 59) = .slice (some ⟨g, 0, none⟩) j j := by rw [ha0]; rfl
              have ev9 : a0.eval (.tmp 63) = .slice (some ⟨g, 0, none⟩) 0 0 := by rw [ha0]; first | rfl | (simp [Act.eval]; omega)
              clear ha0
              have C1 := fun w (hk : Keep wr w) => of_any (some ⟨g, 0, none⟩) j j xs w (HO.out.up hk).lies (by omega)
              have C5 := C1
              have C9 := fun (w : World) (_ : Keep wr w) => of_any (some ⟨g, 0, none⟩) 0 0 [] w (Lies.nil w _ _) (by decide)
              have hm1 : mrg (ofL xs) (ofL []) = ofL xs := by rw [ofL_cat (by rw [HXL.out]; simp; omega) HB.out.1 (by simp), List.append_nil]
              have hm2 : mrg (ofL []) (ofL xs) = ofL xs := by rw [ofL_cat (by rw [HXL.out]; simp; omega) (by simp) HB.out.1, List.nil_append]
              have hm0 : mrg (ofL xs) nil0 = ofL xs := by
                have := (isOf xs (by rw [HXL.out]; omega) HB.out.1).merge IsOf.nil (by rw [HXL.out]; simp; omega)
                rw [List.append_nil] at this
                exact this.unique (isOf xs (by rw [HXL.out]; omega) HB.out.1)
              have hrv : ofL xs.reverse = ofL xs := ofL_reverse (by rw [HXL.out]; omega) HB.out.1
              have hxo : (ofL xs).ok := ofL_ok xs HB.out.1
              have CB := fun w (hk : Keep wr w) => of_any D j e xs.reverse w (HO.out.up hk).swap.lies (by omega)
              rw [hrv] at CB
              clear hrv
              have hAv : 0 < j → AvgF (ofL xs) j (avg (ofL xs)) := fun h => by
                have := avg_f (xs := xs) (by rw [HXL.out]; omega) (by rw [HXL.out]; exact h) HB.out.1 HB.out.2
                rwa [HXL.out] at this
              have hxc : (ofL xs).c = j := by rw [(isOf xs (by rw [HXL.out]; omega) HB.out.1).c, HXL.out]
              have hx0 : j = 0 → ofL xs = nil0 := fun h => by rw [List.eq_nil_of_length_eq_zero (HXL.out.trans h)]; rfl
              generalize ofL xs = x at *
              generalize ofL [] = y at *
              have HM := Lib.hid (And.intro hm1 (And.intro hm2 (And.intro hm0 (And.intro hxo (And.intro hAv (And.intro hxc hx0))))))
              have HCB := Lib.hid CB
              have HKW := Lib.hid (hk1.trans HO.out.keep)
              clear hm1 hm2 hm0 hxo hAv hxc hx0 CB hKc
              refine three_rest (W0 := wr) (X := x) (Y := x) (Z := y) [⟨0, 32, 36028797018963968⟩, ⟨1, 36028797018963968, 72057594037927936⟩, ⟨0, 32, 144115188075855872⟩, ⟨0, 2, 288230376151711744⟩, ⟨12, 432345564227567616, 576460752303423488⟩, ⟨18, 576460752303423488, 1152921504606846976⟩, ⟨0, 32, 2305843009213693952⟩, ⟨0, 2, 4611686018427387904⟩, ⟨192, 6917529027641081856, 9223372036854775808⟩, ⟨288, 9223372036854775808, 18446744073709551616⟩, ⟨0, 0, 1024⟩, ⟨0, 0, 2048⟩, ⟨0, 0, 4096⟩, ⟨7683, 72057594037928960, 0⟩, ⟨15423, 1152921504606849024, 0⟩, ⟨32767, 18446744073709555712, 0⟩] (eqM_spec _ _ _ (by kernel_rfl)) (by kernel_rfl) rfl hs0 ⟨_, rfl, rfl, rfl, rfl⟩ ⟨_, rfl, rfl, rfl, rfl⟩ ⟨_, rfl, rfl, rfl, rfl⟩ ⟨_, rfl, rfl, rfl, rfl⟩ ⟨_, rfl, rfl, rfl, rfl⟩ ⟨_, rfl, rfl, rfl, rfl⟩ ⟨_, rfl, rfl, rfl, rfl⟩ ⟨_, rfl, rfl, rfl, rfl⟩ ⟨_, rfl, rfl, rfl, rfl⟩
                (fun m h => by obtain rfl := Option.some.inj h; decide) (fun m h => by obtain rfl := Option.some.inj h; decide) (fun m h => by obtain rfl := Option.some.inj h; decide) ev1 ev5 ev9 C1 C5 C9 ?_ listed _ hLs hns hKd _ rfl
              intro bk w9 hk9 x1 x2 x3 y1 y2 y3
              clear C1 C5 C9 ev1 ev5 ev9 hs0 hLs hns hKd x1 x2 x3
              simp only [putAll, List.foldl_cons, List.foldl_nil, tr1, tr5, tr9, trVal_ptr _ _ _ _ 10 (.inl rfl), trVal_ptr _ _ _ _ 11 (.inr (.inl rfl)), trVal_ptr _ _ _ _ 12 (.inr (.inr rfl))]
              rw [HA0.out]
              simp only [Act.put, List.setIfInBounds_toArray, List.set_cons_zero, List.set_cons_succ]
              clear HA0
              generalize bk 10 = b1 at *
              generalize bk 11 = b2 at *
              generalize bk 12 = b3 at *
              go_wp2_with fail
              have q1 := equal_ag
              have HS := Lib.hid (show ∀ w', Keep w9 w' → Keep w9 w' ∧ ((w'.cell? ⟨b1, 0, none⟩ = some (.int .i64 x.c) ∧ w'.cell? ⟨b1, 1, none⟩ = some (.int .i64 x.s) ∧ w'.cell? ⟨b1, 2, none⟩ = some (.int .i64 x.mn) ∧ w'.cell? ⟨b1, 3, none⟩ = some (.int .i64 x.mx)) ∧ (w'.cell? ⟨b2, 0, none⟩ = some (.int .i64 x.c) ∧ w'.cell? ⟨b2, 1, none⟩ = some (.int .i64 x.s) ∧ w'.cell? ⟨b2, 2, none⟩ = some (.int .i64 x.mn) ∧ w'.cell? ⟨b2, 3, none⟩ = some (.int .i64 x.mx)) ∧ (w'.cell? ⟨b3, 0, none⟩ = some (.int .i64 y.c) ∧ w'.cell? ⟨b3, 1, none⟩ = some (.int .i64 y.s) ∧ w'.cell? ⟨b3, 2, none⟩ = some (.int .i64 y.mn) ∧ w'.cell? ⟨b3, 3, none⟩ = some (.int .i64 y.mx))) from
                fun w' h => ⟨h, (y1.keep h).cells, (y2.keep h).cells, (y3.keep h).cells⟩)
              have hKc := (Keep.refl w9).drew
              refine seq_region (S := fun w' => Keep w9 w' ∧ ((w'.cell? ⟨b1, 0, none⟩ = some (.int .i64 x.c) ∧ w'.cell? ⟨b1, 1, none⟩ = some (.int .i64 x.s) ∧ w'.cell? ⟨b1, 2, none⟩ = some (.int .i64 x.mn) ∧ w'.cell? ⟨b1, 3, none⟩ = some (.int .i64 x.mx)) ∧ (w'.cell? ⟨b2, 0, none⟩ = some (.int .i64 x.c) ∧ w'.cell? ⟨b2, 1, none⟩ = some (.int .i64 x.s) ∧ w'.cell? ⟨b2, 2, none⟩ = some (.int .i64 x.mn) ∧ w'.cell? ⟨b2, 3, none⟩ = some (.int .i64 x.mx)) ∧ (w'.cell? ⟨b3, 0, none⟩ = some (.int .i64 y.c) ∧ w'.cell? ⟨b3, 1, none⟩ = some (.int .i64 y.s) ∧ w'.cell? ⟨b3, 2, none⟩ = some (.int .i64 y.mn) ∧ w'.cell? ⟨b3, 3, none⟩ = some (.int .i64 y.mx)))) [⟨0, 64, 36893488147419103232⟩, ⟨1, 36893488147419103232, 73786976294838206464⟩, ⟨0, 1024, 147573952589676412928⟩, ⟨6, 221360928884514619392, 295147905179352825856⟩, ⟨10, 295147905179352825856, 590295810358705651712⟩, ⟨16, 590295810358705653760, 1180591620717411303424⟩, ⟨16, 590295810358705655808, 2361183241434822606848⟩, ⟨112, 4132070672510939561984, 4722366482869645213696⟩, ⟨16, 590295810358705652736, 9444732965739290427392⟩, ⟨400, 14757395258967641292800, 18889465931478580854784⟩, ⟨528, 19479761741837286506496, 37778931862957161709568⟩, ⟨1152, 37778931862957161709568, 75557863725914323419136⟩, ⟨2048, 75557863725914323423232, 151115727451828646838272⟩, ⟨2048, 75557863725914323421184, 302231454903657293676544⟩, ⟨14336, 528905046081400263933952, 604462909807314587353088⟩, ⟨2048, 75557863725914323420160, 1208925819614629174706176⟩, ⟨51200, 1888946593147858085478400, 2417851639229258349412352⟩, ⟨67584, 2493409502955172672831488, 4835703278458516698824704⟩, ⟨147456, 4835703278458516698824704, 9671406556917033397649408⟩, ⟨262144, 9671406556917033397650432, 19342813113834066795298816⟩, ⟨262144, 9671406556917033397649408, 38685626227668133590597632⟩, ⟨1835008, 67699845898419233783545856, 77371252455336267181195264⟩, ⟨262144, 9671406556917033397650432, 154742504910672534362390528⟩, ⟨6553600, 241785163922925834941235200, 309485009821345068724781056⟩, ⟨8650752, 319156416378262102122430464, 618970019642690137449562112⟩] [(0, false), (2, false), (1, true), (3, false), (4, false), (5, false), (6, false), (8, false), (7, true), (9, false), (10, false), (11, false), (12, false), (13, false), (15, false), (14, true), (16, false), (17, false), (18, false), (19, false), (20, false), (22, false), (21, true), (23, false), (24, false)] rfl (by kernel_rfl) (by kernel_rfl) (fun _ _ d _ _ h => by cases d <;> exact h) (HS.out _ hKc) ?_
              simp only [rowsOf, rowAt, gslot, List.map_cons, List.map_nil, List.getElem?_toArray, List.getElem?_cons_zero, List.getElem?_cons_succ, Option.bind_some]
              repeat (first
                | (refine seq_take (v := ?_) (a' := ?_) (by rfl) ?_ ?_ ?_
                   rotate_left 2
                   · (intro w hSw; obtain ⟨-, hSw⟩ := hSw; go_split_ands; go_simp; with_reducible rfl)
                   · (simp only [Act.put, List.setIfInBounds_toArray, List.set_cons_zero, List.set_cons_succ]; with_reducible rfl))
                | (refine seq_callv (f := 13) (args := ?_) (v := ?_) (a' := ?_) (by rfl) (by rfl) (by rfl) Try.call13 ?_ ?_ ?_ ?_
                   rotate_left 3
                   · (go_simp; with_reducible rfl)
                   · ((with_reducible refine (HCB.out _ (hk9.trans hKc)).mono ?_)
                      rintro e w' ⟨rfl, hk⟩
                      refine ⟨?_, HS.out _ (hKc.trans hk)⟩
                      with_reducible rfl)
                   · (simp only [Act.put, List.setIfInBounds_toArray, List.set_cons_zero, List.set_cons_succ]; with_reducible rfl)
                   clear hKc
                   intro w2 hw2
                   have hKc := hw2.1
                   clear hw2)
                | (refine seq_callv (f := 15) (args := ?_) (v := ?_) (a' := ?_) (by rfl) (by rfl) (by rfl) Try.call15 ?_ ?_ ?_ ?_
                   rotate_left 3
                   · (go_simp; with_reducible rfl)
                   · ((first
                       | (with_reducible refine (merge_is x y x _ HM.out.1).mono ?_)
                       | (with_reducible refine (merge_is y x x _ HM.out.2.1).mono ?_)
                       | (with_reducible refine (merge_nil x _ HM.out.2.2.1).mono ?_))
                      rintro e w' ⟨rfl, hk⟩
                      refine ⟨?_, HS.out _ (hKc.trans hk)⟩
                      with_reducible rfl)
                   · (simp only [Act.put, List.setIfInBounds_toArray, List.set_cons_zero, List.set_cons_succ]; with_reducible rfl)
                   clear hKc
                   intro w2 hw2
                   have hKc := hw2.1
                   clear hw2)
                | (refine seq_skip (a' := ?_) (HS.out _ hKc) (by rfl) ?_ ?_
                   rotate_left
                   · (simp only [Act.put, List.setIfInBounds_toArray, List.set_cons_zero, List.set_cons_succ]; with_reducible rfl)))
              refine seq_nil ?_
              clear HS
              have hKe := hk9.trans hKc
              have hY := y1.keep hKc
              obtain ⟨a0, a1, a2, a3⟩ := hY.cells
              have HY := Lib.hid hY
              clear hKc hY y1 y2 y3 q1
              go_wp2_with fail
              go_at_call 9
              by_cases hj0 : j = 0
              · have hxn := HM.out.2.2.2.2.2.2 hj0
                refine (avg_is x 0 false _ HM.out.2.2.2.1 (by rw [hxn]; rfl) (by rw [hxn]; rfl)).mono ?_
                rintro e w11 ⟨rfl, hk11⟩
                clear hxn a0 a1 a2 a3
                go_wp2
                go_ret
                exact ⟨rfl, HKW.out.trans (hKe.trans hk11)⟩
              · have hpos : 0 < j := by omega
                obtain ⟨f1, f2, f3, f4, f5⟩ := HM.out.2.2.2.2.1 hpos
                have hxc := HM.out.2.2.2.2.2.1
                generalize hav : avg x = av at *
                refine (avg_is x av true _ HM.out.2.2.2.1 (by simp; omega) hav).mono ?_
                rintro e w11 ⟨rfl, hk11⟩
                clear a0 a1 a2 a3 hxc hav
                obtain ⟨a0, a1, a2, a3⟩ := (HY.out.keep hk11).cells
                go_wp2
                go_ret
                exact ⟨rfl, HKW.out.trans (hKe.trans hk11)⟩
            · have hkl : kk < c := by omega
              have hKc : Keep wr wr.drew := (Keep.refl wr).drew
              refine seqE_region (S := fun w' => Keep wr w') [⟨0, 32, 36028797018963968⟩, ⟨1, 36028797018963968, 72057594037927936⟩, ⟨0, 32, 144115188075855872⟩, ⟨0, 2, 288230376151711744⟩, ⟨12, 432345564227567616, 576460752303423488⟩, ⟨18, 576460752303423488, 1152921504606846976⟩, ⟨0, 32, 2305843009213693952⟩, ⟨0, 2, 4611686018427387904⟩, ⟨192, 6917529027641081856, 9223372036854775808⟩, ⟨288, 9223372036854775808, 18446744073709551616⟩, ⟨0, 0, 1024⟩, ⟨0, 0, 2048⟩, ⟨0, 0, 4096⟩, ⟨7683, 72057594037928960, 0⟩, ⟨15423, 1152921504606849024, 0⟩, ⟨32767, 18446744073709555712, 0⟩] [(0, false), (2, false), (3, false), (4, false), (6, false), (7, false), (8, false)] rfl (by kernel_rfl) (by kernel_rfl) (fun _ _ d _ _ h => by cases d <;> exact h) hKc ?_
              simp only [rowsOf, rowAt, gslot, List.map_cons, List.map_nil, List.getElem?_toArray, List.getElem?_cons_zero, List.getElem?_cons_succ]
              repeat (first
                | (refine seqE_take (v := ?_) (a' := ?_) (by rfl) ?_ ?_ ?_
                   rotate_left 2
                   · (intro w hSw; go_simp; with_reducible rfl)
                   · (simp only [Act.put, List.setIfInBounds_toArray, List.set_cons_zero, List.set_cons_succ]; with_reducible rfl)))
              refine seqE_nil ?_
              intro hKd listed hLs hns
              refine wpAnyH_named (fun a0 ha0 => ?_)
              have HA0 := Lib.hid ha0
              have hs0 : a0.tmps.size = 142 := by rw [ha0]; rfl
              have ev1 : a0.eval (.tmp 55) = .slice (some ⟨g, 0, none⟩) j c := by rw [ha0]; rfl
              have ev5 : a0.eval (.tmp 59) = .slice (some ⟨g, 0, none⟩) kk c := by rw [ha0]; rfl
              have ev9 : a0.eval (.tmp 63) = .slice (some ⟨g, kk, none⟩) (j - kk) (c - kk) := by rw [ha0]; first | rfl | (simp [Act.eval]; omega)
              clear ha0
              have C1 := fun w (hk : Keep wr w) => of_any (some ⟨g, 0, none⟩) j c xs w (HO.out.up hk).lies (by omega)
              have C5 := fun w (hk : Keep wr w) => of_any (some ⟨g, 0, none⟩) kk c (xs.take kk) w (by
                have := (HO.out.up hk).lies.part 0 kk (by omega)
                rwa [vals_part, List.drop_zero, Nat.add_zero] at this) (by omega)
              have C9 := fun w (hk : Keep wr w) => of_any (some ⟨g, kk, none⟩) (j - kk) (c - kk) (xs.drop kk) w (by
                have := (HO.out.up hk).lies.part kk (j - kk) (by omega)
                rwa [vals_part, Nat.zero_add, List.take_of_length_le (by rw [List.length_drop, HXL.out]; exact Nat.le_refl _)] at this) (by omega)
              have hm1 : mrg (ofL (xs.take kk)) (ofL (xs.drop kk)) = ofL xs := by rw [ofL_cat (by rw [← List.length_append, List.take_append_drop, HXL.out]; omega) (fun z hz => HB.out.1 z (List.mem_of_mem_take hz)) (fun z hz => HB.out.1 z (List.mem_of_mem_drop hz)), List.take_append_drop]
              have hm2 : mrg (ofL (xs.drop kk)) (ofL (xs.take kk)) = ofL xs := by rw [ofL_comm (by rw [← List.length_append, List.take_append_drop, HXL.out]; omega) (fun z hz => HB.out.1 z (List.mem_of_mem_take hz)) (fun z hz => HB.out.1 z (List.mem_of_mem_drop hz)), List.take_append_drop]
              have hm0 : mrg (ofL xs) nil0 = ofL xs := by
                have := (isOf xs (by rw [HXL.out]; omega) HB.out.1).merge IsOf.nil (by rw [HXL.out]; simp; omega)
                rw [List.append_nil] at this
                exact this.unique (isOf xs (by rw [HXL.out]; omega) HB.out.1)
              have hrv : ofL xs.reverse = ofL xs := ofL_reverse (by rw [HXL.out]; omega) HB.out.1
              have hxo : (ofL xs).ok := ofL_ok xs HB.out.1
              have CB := fun w (hk : Keep wr w) => of_any D j e xs.reverse w (HO.out.up hk).swap.lies (by omega)
              rw [hrv] at CB
              clear hrv
              have hAv : 0 < j → AvgF (ofL xs) j (avg (ofL xs)) := fun h => by
                have := avg_f (xs := xs) (by rw [HXL.out]; omega) (by rw [HXL.out]; exact h) HB.out.1 HB.out.2
                rwa [HXL.out] at this
              have hxc : (ofL xs).c = j := by rw [(isOf xs (by rw [HXL.out]; omega) HB.out.1).c, HXL.out]
              have hx0 : j = 0 → ofL xs = nil0 := fun h => by rw [List.eq_nil_of_length_eq_zero (HXL.out.trans h)]; rfl
              generalize ofL xs = x at *
              generalize ofL (xs.take kk) = y at *
              generalize ofL (xs.drop kk) = z at *
              have HM := Lib.hid (And.intro hm1 (And.intro hm2 (And.intro hm0 (And.intro hxo (And.intro hAv (And.intro hxc hx0))))))
              have HCB := Lib.hid CB
              have HKW := Lib.hid (hk1.trans HO.out.keep)
              clear hm1 hm2 hm0 hxo hAv hxc hx0 CB hKc
              refine three_rest (W0 := wr) (X := x) (Y := y) (Z := z) [⟨0, 32, 36028797018963968⟩, ⟨1, 36028797018963968, 72057594037927936⟩, ⟨0, 32, 144115188075855872⟩, ⟨0, 2, 288230376151711744⟩, ⟨12, 432345564227567616, 576460752303423488⟩, ⟨18, 576460752303423488, 1152921504606846976⟩, ⟨0, 32, 2305843009213693952⟩, ⟨0, 2, 4611686018427387904⟩, ⟨192, 6917529027641081856, 9223372036854775808⟩, ⟨288, 9223372036854775808, 18446744073709551616⟩, ⟨0, 0, 1024⟩, ⟨0, 0, 2048⟩, ⟨0, 0, 4096⟩, ⟨7683, 72057594037928960, 0⟩, ⟨15423, 1152921504606849024, 0⟩, ⟨32767, 18446744073709555712, 0⟩] (eqM_spec _ _ _ (by kernel_rfl)) (by kernel_rfl) rfl hs0 ⟨_, rfl, rfl, rfl, rfl⟩ ⟨_, rfl, rfl, rfl, rfl⟩ ⟨_, rfl, rfl, rfl, rfl⟩ ⟨_, rfl, rfl, rfl, rfl⟩ ⟨_, rfl, rfl, rfl, rfl⟩ ⟨_, rfl, rfl, rfl, rfl⟩ ⟨_, rfl, rfl, rfl, rfl⟩ ⟨_, rfl, rfl, rfl, rfl⟩ ⟨_, rfl, rfl, rfl, rfl⟩
                (fun m h => by obtain rfl := Option.some.inj h; decide) (fun m h => by obtain rfl := Option.some.inj h; decide) (fun m h => by obtain rfl := Option.some.inj h; decide) ev1 ev5 ev9 C1 C5 C9 ?_ listed _ hLs hns hKd _ rfl
              intro bk w9 hk9 x1 x2 x3 y1 y2 y3
              clear C1 C5 C9 ev1 ev5 ev9 hs0 hLs hns hKd x1 x2 x3
              simp only [putAll, List.foldl_cons, List.foldl_nil, tr1, tr5, tr9, trVal_ptr _ _ _ _ 10 (.inl rfl), trVal_ptr _ _ _ _ 11 (.inr (.inl rfl)), trVal_ptr _ _ _ _ 12 (.inr (.inr rfl))]
              rw [HA0.out]
              simp only [Act.put, List.setIfInBounds_toArray, List.set_cons_zero, List.set_cons_succ]
              clear HA0
              generalize bk 10 = b1 at *
              generalize bk 11 = b2 at *
              generalize bk 12 = b3 at *
              go_wp2_with fail
              have q1 := equal_ag
              have HS := Lib.hid (show ∀ w', Keep w9 w' → Keep w9 w' ∧ ((w'.cell? ⟨b1, 0, none⟩ = some (.int .i64 x.c) ∧ w'.cell? ⟨b1, 1, none⟩ = some (.int .i64 x.s) ∧ w'.cell? ⟨b1, 2, none⟩ = some (.int .i64 x.mn) ∧ w'.cell? ⟨b1, 3, none⟩ = some (.int .i64 x.mx)) ∧ (w'.cell? ⟨b2, 0, none⟩ = some (.int .i64 y.c) ∧ w'.cell? ⟨b2, 1, none⟩ = some (.int .i64 y.s) ∧ w'.cell? ⟨b2, 2, none⟩ = some (.int .i64 y.mn) ∧ w'.cell? ⟨b2, 3, none⟩ = some (.int .i64 y.mx)) ∧ (w'.cell? ⟨b3, 0, none⟩ = some (.int .i64 z.c) ∧ w'.cell? ⟨b3, 1, none⟩ = some (.int .i64 z.s) ∧ w'.cell? ⟨b3, 2, none⟩ = some (.int .i64 z.mn) ∧ w'.cell? ⟨b3, 3, none⟩ = some (.int .i64 z.mx))) from
                fun w' h => ⟨h, (y1.keep h).cells, (y2.keep h).cells, (y3.keep h).cells⟩)
              have hKc := (Keep.refl w9).drew
              refine seq_region (S := fun w' => Keep w9 w' ∧ ((w'.cell? ⟨b1, 0, none⟩ = some (.int .i64 x.c) ∧ w'.cell? ⟨b1, 1, none⟩ = some (.int .i64 x.s) ∧ w'.cell? ⟨b1, 2, none⟩ = some (.int .i64 x.mn) ∧ w'.cell? ⟨b1, 3, none⟩ = some (.int .i64 x.mx)) ∧ (w'.cell? ⟨b2, 0, none⟩ = some (.int .i64 y.c) ∧ w'.cell? ⟨b2, 1, none⟩ = some (.int .i64 y.s) ∧ w'.cell? ⟨b2, 2, none⟩ = some (.int .i64 y.mn) ∧ w'.cell? ⟨b2, 3, none⟩ = some (.int .i64 y.mx)) ∧ (w'.cell? ⟨b3, 0, none⟩ = some (.int .i64 z.c) ∧ w'.cell? ⟨b3, 1, none⟩ = some (.int .i64 z.s) ∧ w'.cell? ⟨b3, 2, none⟩ = some (.int .i64 z.mn) ∧ w'.cell? ⟨b3, 3, none⟩ = some (.int .i64 z.mx)))) [⟨0, 64, 36893488147419103232⟩, ⟨1, 36893488147419103232, 73786976294838206464⟩, ⟨0, 1024, 147573952589676412928⟩, ⟨6, 221360928884514619392, 295147905179352825856⟩, ⟨10, 295147905179352825856, 590295810358705651712⟩, ⟨16, 590295810358705653760, 1180591620717411303424⟩, ⟨16, 590295810358705655808, 2361183241434822606848⟩, ⟨112, 4132070672510939561984, 4722366482869645213696⟩, ⟨16, 590295810358705652736, 9444732965739290427392⟩, ⟨400, 14757395258967641292800, 18889465931478580854784⟩, ⟨528, 19479761741837286506496, 37778931862957161709568⟩, ⟨1152, 37778931862957161709568, 75557863725914323419136⟩, ⟨2048, 75557863725914323423232, 151115727451828646838272⟩, ⟨2048, 75557863725914323421184, 302231454903657293676544⟩, ⟨14336, 528905046081400263933952, 604462909807314587353088⟩, ⟨2048, 75557863725914323420160, 1208925819614629174706176⟩, ⟨51200, 1888946593147858085478400, 2417851639229258349412352⟩, ⟨67584, 2493409502955172672831488, 4835703278458516698824704⟩, ⟨147456, 4835703278458516698824704, 9671406556917033397649408⟩, ⟨262144, 9671406556917033397650432, 19342813113834066795298816⟩, ⟨262144, 9671406556917033397649408, 38685626227668133590597632⟩, ⟨1835008, 67699845898419233783545856, 77371252455336267181195264⟩, ⟨262144, 9671406556917033397650432, 154742504910672534362390528⟩, ⟨6553600, 241785163922925834941235200, 309485009821345068724781056⟩, ⟨8650752, 319156416378262102122430464, 618970019642690137449562112⟩] [(0, false), (2, false), (1, true), (3, false), (4, false), (5, false), (6, false), (8, false), (7, true), (9, false), (10, false), (11, false), (12, false), (13, false), (15, false), (14, true), (16, false), (17, false), (18, false), (19, false), (20, false), (22, false), (21, true), (23, false), (24, false)] rfl (by kernel_rfl) (by kernel_rfl) (fun _ _ d _ _ h => by cases d <;> exact h) (HS.out _ hKc) ?_
              simp only [rowsOf, rowAt, gslot, List.map_cons, List.map_nil, List.getElem?_toArray, List.getElem?_cons_zero, List.getElem?_cons_succ, Option.bind_some]
              repeat (first
                | (refine seq_take (v := ?_) (a' := ?_) (by rfl) ?_ ?_ ?_
                   rotate_left 2
                   · (intro w hSw; obtain ⟨-, hSw⟩ := hSw; go_split_ands; go_simp; with_reducible rfl)
                   · (simp only [Act.put, List.setIfInBounds_toArray, List.set_cons_zero, List.set_cons_succ]; with_reducible rfl))
                | (refine seq_callv (f := 13) (args := ?_) (v := ?_) (a' := ?_) (by rfl) (by rfl) (by rfl) Try.call13 ?_ ?_ ?_ ?_
                   rotate_left 3
                   · (go_simp; with_reducible rfl)
                   · ((with_reducible refine (HCB.out _ (hk9.trans hKc)).mono ?_)
                      rintro e w' ⟨rfl, hk⟩
                      refine ⟨?_, HS.out _ (hKc.trans hk)⟩
                      with_reducible rfl)
                   · (simp only [Act.put, List.setIfInBounds_toArray, List.set_cons_zero, List.set_cons_succ]; with_reducible rfl)
                   clear hKc
                   intro w2 hw2
                   have hKc := hw2.1
                   clear hw2)
                | (refine seq_callv (f := 15) (args := ?_) (v := ?_) (a' := ?_) (by rfl) (by rfl) (by rfl) Try.call15 ?_ ?_ ?_ ?_
                   rotate_left 3
                   · (go_simp; with_reducible rfl)
                   · ((first
                       | (with_reducible refine (merge_is y z x _ HM.out.1).mono ?_)
                       | (with_reducible refine (merge_is z y x _ HM.out.2.1).mono ?_)
                       | (with_reducible refine (merge_nil x _ HM.out.2.2.1).mono ?_))
                      rintro e w' ⟨rfl, hk⟩
                      refine ⟨?_, HS.out _ (hKc.trans hk)⟩
                      with_reducible rfl)
                   · (simp only [Act.put, List.setIfInBounds_toArray, List.set_cons_zero, List.set_cons_succ]; with_reducible rfl)
                   clear hKc
                   intro w2 hw2
                   have hKc := hw2.1
                   clear hw2)
                | (refine seq_skip (a' := ?_) (HS.out _ hKc) (by rfl) ?_ ?_
                   rotate_left
                   · (simp only [Act.put, List.setIfInBounds_toArray, List.set_cons_zero, List.set_cons_succ]; with_reducible rfl)))
              refine seq_nil ?_
              clear HS
              have hKe := hk9.trans hKc
              have hY := y1.keep hKc
              obtain ⟨a0, a1, a2, a3⟩ := hY.cells
              have HY := Lib.hid hY
              clear hKc hY y1 y2 y3 q1
              go_wp2_with fail
              go_at_call 9
              by_cases hj0 : j = 0
              · have hxn := HM.out.2.2.2.2.2.2 hj0
                refine (avg_is x 0 false _ HM.out.2.2.2.1 (by rw [hxn]; rfl) (by rw [hxn]; rfl)).mono ?_
                rintro e w11 ⟨rfl, hk11⟩
                clear hxn a0 a1 a2 a3
                go_wp2
                go_ret
                exact ⟨rfl, HKW.out.trans (hKe.trans hk11)⟩
              · have hpos : 0 < j := by omega
                obtain ⟨f1, f2, f3, f4, f5⟩ := HM.out.2.2.2.2.1 hpos
                have hxc := HM.out.2.2.2.2.2.1
                generalize hav : avg x = av at *
                refine (avg_is x av true _ HM.out.2.2.2.1 (by simp; omega) hav).mono ?_
                rintro e w11 ⟨rfl, hk11⟩
                clear a0 a1 a2 a3 hxc hav
                obtain ⟨a0, a1, a2, a3⟩ := (HY.out.keep hk11).cells
                go_wp2
                go_ret
                exact ⟨rfl, HKW.out.trans (hKe.trans hk11)⟩
          · obtain ⟨m, rfl⟩ : ∃ m, k = m + 1 := ⟨k - 1, by omega⟩
            rw [show ((m + 1 : Nat) : Int) - 1 = (m : Int) by omega]
            obtain ⟨r, hr⟩ : ∃ r, j - (m + 1) = r := ⟨_, rfl⟩
            rw [hr] at hO2 ⊢
            obtain ⟨x, hx⟩ : ∃ x, xs[m]? = some x := ⟨_, List.getElem?_eq_getElem (by rw [HXL.out]; omega)⟩
            obtain ⟨b, off, ea, hb, hc⟩ := hO2.lies.2 (by omega)
            cases ea
            have c0 : wr.cell? ⟨g, m, none⟩ = some (.int .i64 x) := by
              have := hc m (by omega)
              rwa [Nat.zero_add, vals_get hx] at this
            have HT := Lib.hid (rev_step hx)
            have HO := Lib.hid hO2
            have hs := hO2.keep.size
            have hmj : (m : Int) < (j : Int) := by omega
            have HR := Lib.hid (show j - m = r + 1 by omega)
            have hr3 : r ≤ 300 := by omega
            clear hc hx hO2 HO1 hr
            go_wp2_with (at_builtin; refine wpList_append_from rfl _ _ 22 rfl w1.heap.size 2 i0 (.int .i64 0) 8 Try.underlying22 hi hz0 hz1 hz2 rfl (.slice D r e) r _ rfl (HO.out.rb.alloc _) _ (some ⟨wr.heap.size, 0, none⟩) 1 1 [.int .i64 x] rfl (one_lies _ _ _) (fun h => by cases h) (by simp [Value.oneCell']) (by unfold maxLen; omega) (by omega) (by simp; omega) ?_; intro A5 c5 w5 hown5 hgrow5 hat5)
            have hO5 := (HO.out.swap.grown _ hown5 hgrow5 hat5).swap
            rw [HT.out] at hO5
            clear hown5 hgrow5 hat5
            go_wp2_with fail
            go_roundw
            case rel => exact ⟨m, A5, c5, by omega, by go_num, by rw [HR.out], by rw [HR.out]; exact hO5⟩
            case measure => simp [intOf]

theorem AggParts_std (A : Option Addr) (len cap : Nat) (zs : List Int) (v : Int) (_ : (Lit.int .i64 v).wf = true) (w : World) (row : Arr .i64 w A len zs) :
    Calls Try.prog 4 #[.slice A len cap, .int .i64 v] w fun e w' => e = .returned (.bool true) ∧ Below w.heap.size w w' := parts_law A len cap zs v w row
end Go.Proofs.Ytglokhpgjfoneac
