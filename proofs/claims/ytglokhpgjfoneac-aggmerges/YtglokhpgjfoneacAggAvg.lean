/- agg.Avg and Pick: what each answers. -/
import Derived.Test.YtglokhpgjfoneacAggFn
namespace Go.Proofs.Ytglokhpgjfoneac
open Go.RowKit

theorem ret_two {a b : Int} {v : Bool} (h : a = b) : Ending.returned (.tuple #[.int .i64 a, .bool v]) = .returned (.tuple #[.int .i64 b, .bool v]) := by rw [h]
theorem div_in {s c : Int} (hs : inI s) (hc : 0 < c) : inI (s / c) := by
  unfold inI at *
  constructor
  · rw [Int.le_ediv_iff_mul_le hc]
    have : -9223372036854775808 * c ≤ -9223372036854775808 * 1 := Int.mul_le_mul_of_nonpos_left (by decide) (by omega)
    omega
  · have : s / c < 9223372036854775808 := by
      rw [Int.ediv_lt_iff_lt_mul hc]
      have : 9223372036854775808 * 1 ≤ 9223372036854775808 * c := Int.mul_le_mul_of_nonneg_left (by omega) (by decide)
      omega
    omega
theorem wr_sub (x y : Int) : wrap64 (wrap64 x - y) = wrap64 (x - y) := by unfold wrap64; omega
theorem one_at (w : World) (a : Ag) : AgAt (w.alloc (.cells #[.int .i64 a.c, .int .i64 a.s, .int .i64 a.mn, .int .i64 a.mx] 24)) w.heap.size a ∧ Keep w (w.alloc (.cells #[.int .i64 a.c, .int .i64 a.s, .int .i64 a.mn, .int .i64 a.mx] 24)) := ⟨AgAt.new w a, (Keep.refl w).alloc _⟩
set_option maxHeartbeats 1000000 in
theorem avg_yes (a : Ag) (w : World) (ha : a.ok) (h : decide (a.c < 1) = false) :
    Calls Try.prog 9 #[.agg #[.int .i64 a.c, .int .i64 a.s, .int .i64 a.mn, .int .i64 a.mx]] w fun e w' => e = .returned (.tuple #[.int .i64 (avg a), .bool true]) ∧ Keep w w' := by
  have hc : ¬ a.c < 1 := of_decide_eq_false h
  have hp : 0 < a.c := by omega
  have hne : ¬ a.c = 0 := by omega
  have hav : avg a = a.s / a.c := if_neg hc
  have hin := div_in ha.s hp
  have HN := Lib.hid (AgAt.new w a)
  have hk0 := (Keep.refl w).alloc (.cells #[.int .i64 a.c, .int .i64 a.s, .int .i64 a.mn, .int .i64 a.mx] 24)
  have hne2 : (a.c == 0) = false := by simp [hne]
  by_cases hm : a.s.tmod a.c < 0
  · have HH := Lib.hid (show wrap64 (wrap64 (a.s.tdiv a.c) - 1) = avg a by rw [wr_sub, tdiv_down hp hm, wr_id hin, hav])
    clear hav hc
    go_enter Try.func9, Try.ntmps9
    go_wp2_with (go_at_call 18; refine (nothing_is a false _ h).mono ?_; rintro e w1 ⟨rfl, hk1⟩; obtain ⟨a0, a1, a2, a3⟩ := (HN.out.keep hk1).cells)
    go_ret2
    exact ⟨ret_two HH.out, hk0.trans hk1⟩
  · have HH := Lib.hid (show wrap64 (a.s.tdiv a.c) = avg a by rw [tdiv_same hp hm, wr_id hin, hav])
    clear hav hc
    go_enter Try.func9, Try.ntmps9
    go_wp2_with (go_at_call 18; refine (nothing_is a false _ h).mono ?_; rintro e w1 ⟨rfl, hk1⟩; obtain ⟨a0, a1, a2, a3⟩ := (HN.out.keep hk1).cells)
    go_ret2
    exact ⟨ret_two HH.out, hk0.trans hk1⟩
theorem avg_no (a : Ag) (w : World) (h : decide (a.c < 1) = true) :
    Calls Try.prog 9 #[.agg #[.int .i64 a.c, .int .i64 a.s, .int .i64 a.mn, .int .i64 a.mx]] w fun e w' => e = .returned (.tuple #[.int .i64 0, .bool false]) ∧ Keep w w' := by
  have hk0 := (Keep.refl w).alloc (.cells #[.int .i64 a.c, .int .i64 a.s, .int .i64 a.mn, .int .i64 a.mx] 24)
  go_enter Try.func9, Try.ntmps9
  go_wp2_with (go_at_call 18; refine (nothing_is a true _ h).mono ?_; rintro e w1 ⟨rfl, hk1⟩)
  go_ret2
  exact ⟨rfl, hk0.trans hk1⟩
theorem avg_none {a : Ag} (h : a.c < 1) : avg a = 0 := if_pos h
theorem avg_any (a : Ag) (w : World) (ha : a.ok) (v : Bool) (h : decide (a.c < 1) = !v) :
    Calls Try.prog 9 #[.agg #[.int .i64 a.c, .int .i64 a.s, .int .i64 a.mn, .int .i64 a.mx]] w fun e w' => e = .returned (.tuple #[.int .i64 (avg a), .bool v]) ∧ Keep w w' := by
  cases v
  · rw [avg_none (of_decide_eq_true h)]
    exact avg_no a w h
  · exact avg_yes a w ha h

/-- A number by its kind. -/
def pkV (a : Ag) (k : Int) : Int := if k = 0 then a.c else if k = 1 then a.s else if a.c < 1 then 0 else if k = 2 then avg a else if k = 3 then a.mn else if k = 4 then a.mx else 0
def pkB (a : Ag) (k : Int) : Bool := if k = 0 then true else if k = 1 then true else if a.c < 1 then false else if k = 2 then true else if k = 3 then true else if k = 4 then true else false
theorem ret_pk {a b : Int} {v u : Bool} (h : a = b) (h2 : v = u) : Ending.returned (.tuple #[.int .i64 a, .bool v]) = .returned (.tuple #[.int .i64 b, .bool u]) := by rw [h, h2]
set_option maxHeartbeats 2000000 in
theorem pick_any (a : Ag) (k : Int) (w : World) (ha : a.ok) :
    Calls Try.prog 11 #[.agg #[.int .i64 a.c, .int .i64 a.s, .int .i64 a.mn, .int .i64 a.mx], .int .i64 k] w fun e w' => e = .returned (.tuple #[.int .i64 (pkV a k), .bool (pkB a k)]) ∧ Keep w w' := by
  obtain ⟨hN, hk0⟩ := one_at w a
  obtain ⟨a0, a1, a2, a3⟩ := hN.cells
  have HN := Lib.hid hN
  have HO := Lib.hid ha
  clear hN ha
  by_cases h0 : k = 0
  · have HR := Lib.hid (And.intro (show a.c = pkV a k by unfold pkV; rw [if_pos h0]) (show true = pkB a k by unfold pkB; rw [if_pos h0]))
    go_enter Try.func11, Try.ntmps11
    go_wp2
    go_ret2
    exact ⟨ret_pk HR.out.1 HR.out.2, hk0⟩
  by_cases h1 : k = 1
  · have HR := Lib.hid (And.intro (show a.s = pkV a k by unfold pkV; rw [if_neg h0, if_pos h1]) (show true = pkB a k by unfold pkB; rw [if_neg h0, if_pos h1]))
    go_enter Try.func11, Try.ntmps11
    go_wp2
    go_ret2
    exact ⟨ret_pk HR.out.1 HR.out.2, hk0⟩
  by_cases hc : a.c < 1
  · have HR := Lib.hid (And.intro (show 0 = pkV a k by unfold pkV; rw [if_neg h0, if_neg h1, if_pos hc]) (show false = pkB a k by unfold pkB; rw [if_neg h0, if_neg h1, if_pos hc]))
    have HD := Lib.hid (show decide (a.c < 1) = true from decide_eq_true hc)
    clear hc
    go_enter Try.func11, Try.ntmps11
    go_wp2_with (go_at_call 18; refine (nothing_is a true _ HD.out).mono ?_; rintro e w1 ⟨rfl, hk1⟩; clear a0 a1 a2 a3)
    go_ret2
    exact ⟨ret_pk HR.out.1 HR.out.2, hk0.trans hk1⟩
  have HD := Lib.hid (show decide (a.c < 1) = false from decide_eq_false hc)
  by_cases h2 : k = 2
  · have HR := Lib.hid (And.intro (show avg a = pkV a k by unfold pkV; rw [if_neg h0, if_neg h1, if_neg hc, if_pos h2]) (show true = pkB a k by unfold pkB; rw [if_neg h0, if_neg h1, if_neg hc, if_pos h2]))
    clear hc
    go_enter Try.func11, Try.ntmps11
    go_wp2_with fail
    go_at_call 18
    refine (nothing_is a false _ HD.out).mono ?_
    rintro e w1 ⟨rfl, hk1⟩
    clear a0 a1 a2 a3
    obtain ⟨a0, a1, a2, a3⟩ := (HN.out.keep hk1).cells
    go_wp2_with fail
    go_at_call 9
    refine (avg_yes a _ HO.out HD.out).mono ?_
    rintro e w2 ⟨rfl, hk2⟩
    clear a0 a1 a2 a3
    go_wp2
    go_ret2
    exact ⟨ret_pk HR.out.1 HR.out.2, (hk0.trans hk1).trans hk2⟩
  by_cases h3 : k = 3
  · have HR := Lib.hid (And.intro (show a.mn = pkV a k by unfold pkV; rw [if_neg h0, if_neg h1, if_neg hc, if_neg h2, if_pos h3]) (show true = pkB a k by unfold pkB; rw [if_neg h0, if_neg h1, if_neg hc, if_neg h2, if_pos h3]))
    clear hc
    go_enter Try.func11, Try.ntmps11
    go_wp2_with fail
    go_at_call 18
    refine (nothing_is a false _ HD.out).mono ?_
    rintro e w1 ⟨rfl, hk1⟩
    clear a0 a1 a2 a3
    obtain ⟨a0, a1, a2, a3⟩ := (HN.out.keep hk1).cells
    go_wp2
    go_ret2
    exact ⟨ret_pk HR.out.1 HR.out.2, hk0.trans hk1⟩
  by_cases h4 : k = 4
  · have HR := Lib.hid (And.intro (show a.mx = pkV a k by unfold pkV; rw [if_neg h0, if_neg h1, if_neg hc, if_neg h2, if_neg h3, if_pos h4]) (show true = pkB a k by unfold pkB; rw [if_neg h0, if_neg h1, if_neg hc, if_neg h2, if_neg h3, if_pos h4]))
    clear hc
    go_enter Try.func11, Try.ntmps11
    go_wp2_with fail
    go_at_call 18
    refine (nothing_is a false _ HD.out).mono ?_
    rintro e w1 ⟨rfl, hk1⟩
    clear a0 a1 a2 a3
    obtain ⟨a0, a1, a2, a3⟩ := (HN.out.keep hk1).cells
    go_wp2
    go_ret2
    exact ⟨ret_pk HR.out.1 HR.out.2, hk0.trans hk1⟩
  have HR := Lib.hid (And.intro (show 0 = pkV a k by unfold pkV; rw [if_neg h0, if_neg h1, if_neg hc, if_neg h2, if_neg h3, if_neg h4]) (show false = pkB a k by unfold pkB; rw [if_neg h0, if_neg h1, if_neg hc, if_neg h2, if_neg h3, if_neg h4]))
  clear hc
  go_enter Try.func11, Try.ntmps11
  go_wp2_with fail
  go_at_call 18
  refine (nothing_is a false _ HD.out).mono ?_
  rintro e w1 ⟨rfl, hk1⟩
  clear a0 a1 a2 a3
  obtain ⟨a0, a1, a2, a3⟩ := (HN.out.keep hk1).cells
  go_wp2
  go_ret2
  exact ⟨ret_pk HR.out.1 HR.out.2, hk0.trans hk1⟩
end Go.Proofs.Ytglokhpgjfoneac
