/- The document's own Merge, Avg and Pick of agg. -/
import Derived.Test.YtglokhpgjfoneacAggAvg
namespace Go.Proofs.Ytglokhpgjfoneac
open Go.RowKit

theorem keep4 (w : World) (o1 o2 o3 o4 : Obj) : Keep w ((((w.alloc o1).alloc o2).alloc o3).alloc o4) := ((((Keep.refl w).alloc _).alloc _).alloc _).alloc _
theorem keep3 (w : World) (o1 o2 o3 : Obj) : Keep w (((w.alloc o1).alloc o2).alloc o3) := (((Keep.refl w).alloc _).alloc _).alloc _
set_option maxHeartbeats 1000000 in
theorem rmerge_oo (a b : Ag) (w : World) (h1 : decide (a.c < 1) = true) (h2 : decide (b.c < 1) = true) :
    Calls Try.prog 16 #[.agg #[.int .i64 a.c, .int .i64 a.s, .int .i64 a.mn, .int .i64 a.mx], .agg #[.int .i64 b.c, .int .i64 b.s, .int .i64 b.mn, .int .i64 b.mx]] w fun e w' => e = .returned (.agg #[.int .i64 nil0.c, .int .i64 nil0.s, .int .i64 nil0.mn, .int .i64 nil0.mx]) ∧ Keep w w' := by
  go_enter Try.func16, Try.ntmps16
  go_wp2
  exact bodyPost_ret (v := .agg #[.int .i64 0, .int .i64 0, .int .i64 0, .int .i64 0]) (by simp [results, Try.results16, go_sem]) rfl ⟨rfl, keep3 _ _ _ _⟩
set_option maxHeartbeats 1000000 in
theorem rmerge_xo (a b : Ag) (w : World) (h1 : decide (a.c < 1) = false) (h2 : decide (b.c < 1) = true) :
    Calls Try.prog 16 #[.agg #[.int .i64 a.c, .int .i64 a.s, .int .i64 a.mn, .int .i64 a.mx], .agg #[.int .i64 b.c, .int .i64 b.s, .int .i64 b.mn, .int .i64 b.mx]] w fun e w' => e = .returned (.agg #[.int .i64 a.c, .int .i64 a.s, .int .i64 a.mn, .int .i64 a.mx]) ∧ Keep w w' := by
  go_enter Try.func16, Try.ntmps16
  go_wp2
  exact bodyPost_ret (v := .agg #[.int .i64 a.c, .int .i64 a.s, .int .i64 a.mn, .int .i64 a.mx]) (by simp [results, Try.results16, go_sem]) rfl ⟨rfl, keep3 _ _ _ _⟩
set_option maxHeartbeats 1000000 in
theorem rmerge_ox (a b : Ag) (w : World) (h1 : decide (a.c < 1) = true) (h2 : decide (b.c < 1) = false) :
    Calls Try.prog 16 #[.agg #[.int .i64 a.c, .int .i64 a.s, .int .i64 a.mn, .int .i64 a.mx], .agg #[.int .i64 b.c, .int .i64 b.s, .int .i64 b.mn, .int .i64 b.mx]] w fun e w' => e = .returned (.agg #[.int .i64 b.c, .int .i64 b.s, .int .i64 b.mn, .int .i64 b.mx]) ∧ Keep w w' := by
  go_enter Try.func16, Try.ntmps16
  go_wp2
  exact bodyPost_ret (v := .agg #[.int .i64 b.c, .int .i64 b.s, .int .i64 b.mn, .int .i64 b.mx]) (by simp [results, Try.results16, go_sem]) rfl ⟨rfl, keep3 _ _ _ _⟩
set_option maxHeartbeats 2000000 in
theorem rmerge_xx (a b : Ag) (w : World) (h1 : decide (a.c < 1) = false) (h2 : decide (b.c < 1) = false) :
    Calls Try.prog 16 #[.agg #[.int .i64 a.c, .int .i64 a.s, .int .i64 a.mn, .int .i64 a.mx], .agg #[.int .i64 b.c, .int .i64 b.s, .int .i64 b.mn, .int .i64 b.mx]] w fun e w' => e = .returned (.agg #[.int .i64 (both a b).c, .int .i64 (both a b).s, .int .i64 (both a b).mn, .int .i64 (both a b).mx]) ∧ Keep w w' := by
  by_cases h3 : b.mn < a.mn
  · by_cases h4 : b.mx > a.mx
    · have HV := Lib.hid (show both a b = ⟨wrap64 (a.c + b.c), wrap64 (a.s + b.s), b.mn, b.mx⟩ by unfold both; rw [show min a.mn b.mn = b.mn by omega, show max a.mx b.mx = b.mx by omega])
      go_enter Try.func16, Try.ntmps16
      go_wp2
      exact bodyPost_ret (v := .agg #[.int .i64 (wrap64 (a.c + b.c)), .int .i64 (wrap64 (a.s + b.s)), .int .i64 b.mn, .int .i64 b.mx]) (by simp [results, Try.results16, go_sem]) rfl ⟨by rw [HV.out], keep4 _ _ _ _ _⟩
    · have HV := Lib.hid (show both a b = ⟨wrap64 (a.c + b.c), wrap64 (a.s + b.s), b.mn, a.mx⟩ by unfold both; rw [show min a.mn b.mn = b.mn by omega, show max a.mx b.mx = a.mx by omega])
      go_enter Try.func16, Try.ntmps16
      go_wp2
      exact bodyPost_ret (v := .agg #[.int .i64 (wrap64 (a.c + b.c)), .int .i64 (wrap64 (a.s + b.s)), .int .i64 b.mn, .int .i64 a.mx]) (by simp [results, Try.results16, go_sem]) rfl ⟨by rw [HV.out], keep4 _ _ _ _ _⟩
  · by_cases h4 : b.mx > a.mx
    · have HV := Lib.hid (show both a b = ⟨wrap64 (a.c + b.c), wrap64 (a.s + b.s), a.mn, b.mx⟩ by unfold both; rw [show min a.mn b.mn = a.mn by omega, show max a.mx b.mx = b.mx by omega])
      go_enter Try.func16, Try.ntmps16
      go_wp2
      exact bodyPost_ret (v := .agg #[.int .i64 (wrap64 (a.c + b.c)), .int .i64 (wrap64 (a.s + b.s)), .int .i64 a.mn, .int .i64 b.mx]) (by simp [results, Try.results16, go_sem]) rfl ⟨by rw [HV.out], keep4 _ _ _ _ _⟩
    · have HV := Lib.hid (show both a b = ⟨wrap64 (a.c + b.c), wrap64 (a.s + b.s), a.mn, a.mx⟩ by unfold both; rw [show min a.mn b.mn = a.mn by omega, show max a.mx b.mx = a.mx by omega])
      go_enter Try.func16, Try.ntmps16
      go_wp2
      exact bodyPost_ret (v := .agg #[.int .i64 (wrap64 (a.c + b.c)), .int .i64 (wrap64 (a.s + b.s)), .int .i64 a.mn, .int .i64 a.mx]) (by simp [results, Try.results16, go_sem]) rfl ⟨by rw [HV.out], keep4 _ _ _ _ _⟩
theorem rmerge_any (a b : Ag) (w : World) : Calls Try.prog 16 #[.agg #[.int .i64 a.c, .int .i64 a.s, .int .i64 a.mn, .int .i64 a.mx], .agg #[.int .i64 b.c, .int .i64 b.s, .int .i64 b.mn, .int .i64 b.mx]] w fun e w' => e = .returned (.agg #[.int .i64 (mrg a b).c, .int .i64 (mrg a b).s, .int .i64 (mrg a b).mn, .int .i64 (mrg a b).mx]) ∧ Keep w w' := by
  by_cases h1 : a.c < 1
  · by_cases h2 : b.c < 1
    · rw [mrg_oo h1 h2]; exact rmerge_oo a b w (decide_eq_true h1) (decide_eq_true h2)
    · rw [mrg_ox h1 h2]; exact rmerge_ox a b w (decide_eq_true h1) (decide_eq_false h2)
  · by_cases h2 : b.c < 1
    · rw [mrg_xo h1 h2]; exact rmerge_xo a b w (decide_eq_false h1) (decide_eq_true h2)
    · rw [mrg_xx h1 h2]; exact rmerge_xx a b w (decide_eq_false h1) (decide_eq_false h2)

/-! Avg. -/
theorem mul_back {s c : Int} (h0 : s.tmod c = 0) : s.tdiv c * c = s := by
  have h1 : c * s.tdiv c + s.tmod c = s := Int.mul_tdiv_add_tmod s c
  rw [Int.mul_comm]; omega
theorem mul_in {s c : Int} (hs : inI s) (hc : 0 < c) : inI (s.tdiv c * c) := by
  have h1 : c * s.tdiv c + s.tmod c = s := Int.mul_tdiv_add_tmod s c
  rw [Int.mul_comm]
  unfold inI at *
  rcases Int.le_total 0 s with h | h
  · have h2 := Int.tmod_nonneg c h
    have h3 := Int.mul_nonneg (Int.le_of_lt hc) (Int.tdiv_nonneg h (Int.le_of_lt hc))
    omega
  · have h2 : s.tmod c ≤ 0 := by
      have := Int.tmod_nonneg c (show 0 ≤ -s by omega)
      rw [Int.neg_tmod] at this
      omega
    have h3 : c * s.tdiv c ≤ 0 := by
      have := Int.mul_nonneg (Int.le_of_lt hc) (Int.tdiv_nonneg (show 0 ≤ -s by omega) (Int.le_of_lt hc))
      rw [Int.neg_tdiv, Int.mul_neg] at this
      omega
    omega
theorem tdiv_in {s c : Int} (hs : inI s) (hc : 0 < c) : inI (s.tdiv c) := by
  have hd := div_in hs hc
  by_cases hm : s.tmod c < 0
  · have := tdiv_down hc hm
    have h2 : s.tdiv c ≤ 0 := by
      rcases Int.le_total 0 s with h | h
      · have := Int.tmod_nonneg c h; omega
      · have := Int.tdiv_nonneg (show 0 ≤ -s by omega) (Int.le_of_lt hc)
        rw [Int.neg_tdiv] at this
        omega
    unfold inI at *
    omega
  · rw [tdiv_same hc hm]; exact hd
theorem tmod_neg_of {s c : Int} (hs : s < 0) (h : ¬ s.tmod c = 0) : s.tmod c < 0 := by
  have := Int.tmod_nonneg c (show 0 ≤ -s by omega)
  rw [Int.neg_tmod] at this
  omega
set_option maxHeartbeats 1000000 in
theorem ravg_yes (a : Ag) (w : World) (ha : a.ok) (h : decide (a.c < 1) = false) :
    Calls Try.prog 10 #[.agg #[.int .i64 a.c, .int .i64 a.s, .int .i64 a.mn, .int .i64 a.mx]] w fun e w' => e = .returned (.tuple #[.int .i64 (avg a), .bool true]) ∧ Keep w w' := by
  have hc : ¬ a.c < 1 := of_decide_eq_false h
  have hp : 0 < a.c := by omega
  have hne : ¬ a.c = 0 := by omega
  have hav : avg a = a.s / a.c := if_neg hc
  have hin := div_in ha.s hp
  have hti := wr_id (tdiv_in ha.s hp)
  have hmi := wr_id (mul_in ha.s hp)
  have hk0 := (Keep.refl w).alloc (.cells #[.int .i64 a.c, .int .i64 a.s, .int .i64 a.mn, .int .i64 a.mx] 24)
  have hne2 : (a.c == 0) = false := by simp [hne]
  by_cases hs : a.s < 0
  · by_cases h0 : a.s.tmod a.c = 0
    · have hq := mul_back h0
      have HH := Lib.hid (show wrap64 (a.s.tdiv a.c) = avg a by rw [hti, tdiv_same hp (by omega), hav])
      have hq2 : (wrap64 (wrap64 (a.s.tdiv a.c) * a.c) != a.s) = false := by rw [hti, hmi, hq]; simp
      clear hav hc h0 hq hmi hti
      go_enter Try.func10, Try.ntmps10
      go_wp2
      go_ret2
      exact ⟨ret_two HH.out, hk0⟩
    · have hm := tmod_neg_of hs h0
      have h1 : a.c * a.s.tdiv a.c + a.s.tmod a.c = a.s := Int.mul_tdiv_add_tmod a.s a.c
      have HH := Lib.hid (show wrap64 (wrap64 (a.s.tdiv a.c) - 1) = avg a by rw [wr_sub, tdiv_down hp hm, wr_id hin, hav])
      have hq2 : (wrap64 (wrap64 (a.s.tdiv a.c) * a.c) != a.s) = true := by
        rw [hti, hmi, bne_iff_ne, Int.mul_comm]
        omega
      clear hav hc h0 h1 hmi hti hm
      go_enter Try.func10, Try.ntmps10
      go_wp2
      go_ret2
      exact ⟨ret_two HH.out, hk0⟩
  · have hm : ¬ a.s.tmod a.c < 0 := by have := Int.tmod_nonneg a.c (show 0 ≤ a.s by omega); omega
    have HH := Lib.hid (show wrap64 (a.s.tdiv a.c) = avg a by rw [hti, tdiv_same hp hm, hav])
    clear hav hc hm hmi hti
    go_enter Try.func10, Try.ntmps10
    go_wp2
    go_ret2
    exact ⟨ret_two HH.out, hk0⟩
theorem ravg_any (a : Ag) (w : World) (ha : a.ok) (v : Bool) (h : decide (a.c < 1) = !v) :
    Calls Try.prog 10 #[.agg #[.int .i64 a.c, .int .i64 a.s, .int .i64 a.mn, .int .i64 a.mx]] w fun e w' => e = .returned (.tuple #[.int .i64 (avg a), .bool v]) ∧ Keep w w' := by
  cases v
  · rw [avg_none (of_decide_eq_true h)]
    have hk0 := (Keep.refl w).alloc (.cells #[.int .i64 a.c, .int .i64 a.s, .int .i64 a.mn, .int .i64 a.mx] 24)
    go_enter Try.func10, Try.ntmps10
    go_wp2
    go_ret2
    exact ⟨rfl, hk0⟩
  · exact ravg_yes a w ha h

set_option maxHeartbeats 2000000 in
theorem rpick_any (a : Ag) (k : Int) (w : World) (ha : a.ok) :
    Calls Try.prog 12 #[.agg #[.int .i64 a.c, .int .i64 a.s, .int .i64 a.mn, .int .i64 a.mx], .int .i64 k] w fun e w' => e = .returned (.tuple #[.int .i64 (pkV a k), .bool (pkB a k)]) ∧ Keep w w' := by
  have hk0 := (Keep.refl w).alloc (.cells #[.int .i64 a.c, .int .i64 a.s, .int .i64 a.mn, .int .i64 a.mx] 24)
  have HO := Lib.hid ha
  clear ha
  by_cases h0 : k = 0
  · have HR := Lib.hid (And.intro (show a.c = pkV a k by unfold pkV; rw [if_pos h0]) (show true = pkB a k by unfold pkB; rw [if_pos h0]))
    go_enter Try.func12, Try.ntmps12
    go_wp2
    go_ret2
    exact ⟨ret_pk HR.out.1 HR.out.2, hk0⟩
  by_cases h1 : k = 1
  · have HR := Lib.hid (And.intro (show a.s = pkV a k by unfold pkV; rw [if_neg h0, if_pos h1]) (show true = pkB a k by unfold pkB; rw [if_neg h0, if_pos h1]))
    go_enter Try.func12, Try.ntmps12
    go_wp2
    go_ret2
    exact ⟨ret_pk HR.out.1 HR.out.2, hk0⟩
  by_cases hc : a.c < 1
  · have HR := Lib.hid (And.intro (show 0 = pkV a k by unfold pkV; rw [if_neg h0, if_neg h1, if_pos hc]) (show false = pkB a k by unfold pkB; rw [if_neg h0, if_neg h1, if_pos hc]))
    have hg : decide (a.c > 0) = false := by simp; omega
    have HV := Lib.hid (avg_none hc)
    have HD := Lib.hid (show decide (a.c < 1) = true from decide_eq_true hc)
    by_cases h2 : k = 2
    · clear hc hg
      go_enter Try.func12, Try.ntmps12
      go_wp2_with (go_at_call 10; refine (ravg_any a _ HO.out false HD.out).mono ?_; rw [HV.out]; rintro e w1 ⟨rfl, hk1⟩)
      go_ret2
      exact ⟨ret_pk HR.out.1 HR.out.2, hk0.trans hk1⟩
    · clear hc
      go_enter Try.func12, Try.ntmps12
      go_wp2
      go_ret2
      exact ⟨ret_pk HR.out.1 HR.out.2, hk0⟩
  have hg : decide (a.c > 0) = true := by simp; omega
  have HD := Lib.hid (show decide (a.c < 1) = false from decide_eq_false hc)
  by_cases h2 : k = 2
  · have HR := Lib.hid (And.intro (show avg a = pkV a k by unfold pkV; rw [if_neg h0, if_neg h1, if_neg hc, if_pos h2]) (show true = pkB a k by unfold pkB; rw [if_neg h0, if_neg h1, if_neg hc, if_pos h2]))
    clear hc hg
    go_enter Try.func12, Try.ntmps12
    go_wp2_with (go_at_call 10; refine (ravg_any a _ HO.out true HD.out).mono ?_; rintro e w1 ⟨rfl, hk1⟩)
    go_ret2
    exact ⟨ret_pk HR.out.1 HR.out.2, hk0.trans hk1⟩
  by_cases h3 : k = 3
  · have HR := Lib.hid (And.intro (show a.mn = pkV a k by unfold pkV; rw [if_neg h0, if_neg h1, if_neg hc, if_neg h2, if_pos h3]) (show true = pkB a k by unfold pkB; rw [if_neg h0, if_neg h1, if_neg hc, if_neg h2, if_pos h3]))
    clear hc
    go_enter Try.func12, Try.ntmps12
    go_wp2
    go_ret2
    exact ⟨ret_pk HR.out.1 HR.out.2, hk0⟩
  by_cases h4 : k = 4
  · have HR := Lib.hid (And.intro (show a.mx = pkV a k by unfold pkV; rw [if_neg h0, if_neg h1, if_neg hc, if_neg h2, if_neg h3, if_pos h4]) (show true = pkB a k by unfold pkB; rw [if_neg h0, if_neg h1, if_neg hc, if_neg h2, if_neg h3, if_pos h4]))
    clear hc
    go_enter Try.func12, Try.ntmps12
    go_wp2
    go_ret2
    exact ⟨ret_pk HR.out.1 HR.out.2, hk0⟩
  have HR := Lib.hid (And.intro (show 0 = pkV a k by unfold pkV; rw [if_neg h0, if_neg h1, if_neg hc, if_neg h2, if_neg h3, if_neg h4]) (show false = pkB a k by unfold pkB; rw [if_neg h0, if_neg h1, if_neg hc, if_neg h2, if_neg h3, if_neg h4]))
  clear hc
  go_enter Try.func12, Try.ntmps12
  go_wp2
  go_ret2
  exact ⟨ret_pk HR.out.1 HR.out.2, hk0⟩
end Go.Proofs.Ytglokhpgjfoneac
