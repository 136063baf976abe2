/- The walks of FitTypes and FitEnds. -/
import Derived.Test.YtoilbmhijjkkaaaDoorFitAlive
namespace Go.Proofs.YtoilbmhijjkkaaaDoor
open Go.RowKit

theorem one_any (n lo hi : Int) (w : World) :
    Calls Tryd.prog 16 #[.int .i64 n, .int .i64 (cutv lo hi n), .bool (fits lo hi n), .int .i64 lo, .int .i64 hi] w fun e w' => e = .returned (.bool true) ∧ w = w' := by
  by_cases h1 : lo ≤ n
  · by_cases h2 : n ≤ hi
    · rw [cutv_yes h1 h2, fits_yes h1 h2]
      go_enter Tryd.func16, Tryd.ntmps16
      go_wp2
      go_ret
      exact ⟨rfl, rfl⟩
    · rw [cutv_no (by omega), fits_no (by omega)]
      have hd : decide (n ≤ hi) = false := by simpa using h2
      go_enter Tryd.func16, Tryd.ntmps16
      go_wp2
      go_ret
      exact ⟨rfl, rfl⟩
  · rw [cutv_no (by omega), fits_no (by omega)]
    have hd : decide (lo ≤ n) = false := by simpa using h1
    go_enter Tryd.func16, Tryd.ntmps16
    go_wp2
    go_ret
    exact ⟨rfl, rfl⟩

set_option maxRecDepth 100000 in
set_option maxHeartbeats 1000000 in
theorem types_walk (n : Int) (w : World) (hT : Tab w) (ha : -9223372036854775808 ≤ n) (hb : n ≤ 9223372036854775807) :
    Calls Tryd.prog 3 #[.int .i64 n] w fun e w' => e = .returned (.bool true) ∧ Below w.heap.size w w' := by
  obtain ⟨a1, a2⟩ := cutv_bd (-128) 127 n (by decide) (by decide)
  obtain ⟨b1, b2⟩ := cutv_bd (-32768) 32767 n (by decide) (by decide)
  obtain ⟨c1, c2⟩ := cutv_bd (-2147483648) 2147483647 n (by decide) (by decide)
  obtain ⟨d1, d2⟩ := cutv_bd 0 255 n (by decide) (by decide)
  obtain ⟨e1, e2⟩ := cutv_bd 0 65535 n (by decide) (by decide)
  obtain ⟨f1, f2⟩ := cutv_bd 0 4294967295 n (by decide) (by decide)
  go_enter Tryd.func3, Tryd.ntmps3
  go_wp2_with (first
    | (go_at_call 9; refine (alive_any _ hT).mono ?_; rintro e w1 ⟨rfl, hw1⟩)
    | (go_at_call 10; refine (to8_any _ _ ha hb).mono ?_; rintro e w' ⟨rfl, rfl⟩)
    | (go_at_call 11; refine (to16_any _ _ ha hb).mono ?_; rintro e w' ⟨rfl, rfl⟩)
    | (go_at_call 12; refine (to32_any _ _ ha hb).mono ?_; rintro e w' ⟨rfl, rfl⟩)
    | (go_at_call 13; refine (tou8_any _ _ ha hb).mono ?_; rintro e w' ⟨rfl, rfl⟩)
    | (go_at_call 14; refine (tou16_any _ _ ha hb).mono ?_; rintro e w' ⟨rfl, rfl⟩)
    | (go_at_call 15; refine (tou32_any _ _ ha hb).mono ?_; rintro e w' ⟨rfl, rfl⟩)
    | (go_at_call 16; refine (one_any _ _ _ _).mono ?_; rintro e w' ⟨rfl, rfl⟩))
  go_ret
  exact ⟨rfl, hw1⟩

theorem fits_cases (lo hi n : Int) : (fits lo hi n = true ∧ lo ≤ n ∧ n ≤ hi) ∨ (fits lo hi n = false ∧ (n < lo ∨ hi < n)) := by
  by_cases h : lo ≤ n ∧ n ≤ hi
  · exact .inl ⟨fits_yes h.1 h.2, h⟩
  · exact .inr ⟨fits_no (by omega), by omega⟩

theorem r1 (w : World) : Calls Tryd.prog 13 #[.int .i64 255] w fun e w' => e = .returned (.tuple #[.int .u8 255, .bool true]) ∧ w = w' := tou8_yes 255 w (by decide) (by decide)
theorem r2 (w : World) : Calls Tryd.prog 13 #[.int .i64 65535] w fun e w' => e = .returned (.tuple #[.int .u8 0, .bool false]) ∧ w = w' := tou8_no 65535 w (by decide) (by decide) (by decide)
theorem r3 (w : World) : Calls Tryd.prog 14 #[.int .i64 256] w fun e w' => e = .returned (.tuple #[.int .u16 256, .bool true]) ∧ w = w' := tou16_yes 256 w (by decide) (by decide)
theorem r4 (w : World) : Calls Tryd.prog 14 #[.int .i64 65536] w fun e w' => e = .returned (.tuple #[.int .u16 0, .bool false]) ∧ w = w' := tou16_no 65536 w (by decide) (by decide) (by decide)
theorem r5 (w : World) : Calls Tryd.prog 11 #[.int .i64 127] w fun e w' => e = .returned (.tuple #[.int .i16 127, .bool true]) ∧ w = w' := to16_yes 127 w (by decide) (by decide)
theorem r6 (w : World) : Calls Tryd.prog 11 #[.int .i64 32767] w fun e w' => e = .returned (.tuple #[.int .i16 32767, .bool true]) ∧ w = w' := to16_yes 32767 w (by decide) (by decide)

set_option maxRecDepth 100000 in
set_option maxHeartbeats 4000000 in
theorem ends_walk (n : Int) (w : World) (hT : Tab w) (ha : -9223372036854775808 ≤ n) (hb : n ≤ 9223372036854775807) :
    Calls Tryd.prog 8 #[.int .i64 n] w fun e w' => e = .returned (.bool true) ∧ Below w.heap.size w w' := by
  have w8 : wrap64 256 = 256 := by unfold wrap64; omega
  have w16 : wrap64 65536 = 65536 := by unfold wrap64; omega
  rcases fits_cases (-128) 127 n with ⟨g1, p1, q1⟩ | ⟨g1, p1⟩ <;>
  rcases fits_cases (-32768) 32767 n with ⟨g2, p2, q2⟩ | ⟨g2, p2⟩ <;> first | (exfalso; omega) | skip
  all_goals rcases fits_cases (-2147483648) 2147483647 n with ⟨g3, p3, q3⟩ | ⟨g3, p3⟩ <;> first | (exfalso; omega) | skip
  all_goals rcases fits_cases 0 255 n with ⟨g4, p4, q4⟩ | ⟨g4, p4⟩ <;> first | (exfalso; omega) | skip
  all_goals rcases fits_cases 0 65535 n with ⟨g5, p5, q5⟩ | ⟨g5, p5⟩ <;> first | (exfalso; omega) | skip
  all_goals rcases fits_cases 0 4294967295 n with ⟨g6, p6, q6⟩ | ⟨g6, p6⟩ <;> first | (exfalso; omega) | skip
  all_goals rcases Int.lt_or_le n 0 with hz | hz <;> first | (exfalso; omega) | skip
  all_goals
    have hzd : decide (n < 0) = true ∨ decide (n < 0) = false := by by_cases h : n < 0 <;> simp [h]
    rcases hzd with hzd | hzd
  all_goals first | (exfalso; simp at hzd; omega) | skip
  all_goals
    go_enter Tryd.func8, Tryd.ntmps8
    go_wp2_with (first
      | (go_at_call 9; refine (alive_any _ hT).mono ?_; rintro e w1 ⟨rfl, hw1⟩)
      | (go_at_call 10; refine (to8_any _ _ ha hb).mono ?_; rintro e w' ⟨rfl, rfl⟩)
      | (go_at_call 11; refine (to16_any _ _ ha hb).mono ?_; rintro e w' ⟨rfl, rfl⟩)
      | (go_at_call 12; refine (to32_any _ _ ha hb).mono ?_; rintro e w' ⟨rfl, rfl⟩)
      | (go_at_call 13; refine (tou8_any _ _ ha hb).mono ?_; rintro e w' ⟨rfl, rfl⟩)
      | (go_at_call 14; refine (tou16_any _ _ ha hb).mono ?_; rintro e w' ⟨rfl, rfl⟩)
      | (go_at_call 15; refine (tou32_any _ _ ha hb).mono ?_; rintro e w' ⟨rfl, rfl⟩))
    go_loop [15] (fun b => b = .int .i64 8 ∨ b = .int .i64 16 ∨ b = .int .i64 24) (fun b => (32 - intOf b).toNat)
    case atStart => exact .inl rfl
    case round =>
      rcases hrel with rfl | rfl | rfl
      · go_wp2_with (first
          | (go_at_call 13; refine (r1 _).mono ?_; rintro e w' ⟨rfl, rfl⟩)
          | (go_at_call 14; refine (r3 _).mono ?_; rintro e w' ⟨rfl, rfl⟩)
          | (go_at_call 11; refine (r5 _).mono ?_; rintro e w' ⟨rfl, rfl⟩))
        go_round
        case rel => exact .inr (.inl rfl)
        case measure => simp [intOf]
      · go_wp2_with (first
          | (go_at_call 13; refine (r2 _).mono ?_; rintro e w' ⟨rfl, rfl⟩)
          | (go_at_call 14; refine (r4 _).mono ?_; rintro e w' ⟨rfl, rfl⟩)
          | (go_at_call 11; refine (r6 _).mono ?_; rintro e w' ⟨rfl, rfl⟩))
        go_round
        case rel => exact .inr (.inr rfl)
        case measure => simp [intOf]
      · go_wp2
        go_ret
        exact ⟨rfl, hw1⟩
end Go.Proofs.YtoilbmhijjkkaaaDoor
