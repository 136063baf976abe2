/- The law's own example: it says true. -/
import Derived.Test.YtoilbmhijjkkaaaDoorFitOf
namespace Go.Proofs.YtoilbmhijjkkaaaDoor
open Go.RowKit

theorem c_sign (w : World) : Calls Tryd.prog 20 #[.int .u64 255, .int .i64 8] w fun e w' => e = .returned (.int .i64 (-1)) ∧ w = w' := sign_k 255 8 8 (by decide) w
theorem c_low (w : World) : Calls Tryd.prog 18 #[.int .u64 4660, .int .i64 8] w fun e w' => e = .returned (.int .u64 52) ∧ w = w' := low_k 4660 8 8 (by decide) w
theorem c_tou8 (w : World) : Calls Tryd.prog 13 #[.int .i64 256] w fun e w' => e = .returned (.tuple #[.int .u8 0, .bool false]) ∧ w = w' := tou8_no 256 w (by decide) (by decide) (by decide)
theorem c_to8 (w : World) : Calls Tryd.prog 10 #[.int .i64 (-128)] w fun e w' => e = .returned (.tuple #[.int .i8 (-128), .bool true]) ∧ w = w' := to8_yes (-128) w (by decide) (by decide)
theorem c_halves (w : World) : Calls Tryd.prog 28 #[.int .u64 4294967303] w fun e w' => e = .returned (.tuple #[.int .u32 1, .int .u32 7]) ∧ w = w' := halves_any 4294967303 w (by decide)
theorem c_join (w : World) : Calls Tryd.prog 29 #[.int .u32 1, .int .u32 7] w fun e w' => e = .returned (.int .u64 4294967303) ∧ w = w' := join_any 1 7 w (by decide) (by decide)
theorem rot_one : rotN 1 63 = 9223372036854775808 := by decide +kernel
theorem c_rot (w : World) : Calls Tryd.prog 22 #[.int .u64 1, .int .i64 (-1)] w fun e w' => e = .returned (.int .u64 9223372036854775808) ∧ w = w' := by
  have h := rot_any 1 (-1) 63 w (by decide) (by decide) (by decide)
  rw [rot_one] at h
  exact h
theorem of_two : ofN [0, 5] = 33 := by decide +kernel
theorem c_of (w : World) : Calls Tryd.prog 26 #[.slice (some ⟨w.heap.size, 0, none⟩) 2 2] (w.alloc (.cells #[.int .i64 0, .int .i64 5] 3)) fun e w' => e = .returned (.int .u64 33) ∧ w.alloc (.cells #[.int .i64 0, .int .i64 5] 3) = w' := by
  have h := of_any (some ⟨w.heap.size, 0, none⟩) 2 2 [0, 5] (w.alloc (.cells #[.int .i64 0, .int .i64 5] 3)) (w.heap.size + 1) (by unfold maxLen; omega)
    ⟨rfl, fun _ => ⟨w.heap.size, 0, rfl, by omega, fun k hk => by
      match k, hk with
      | 0, _ => simp [ints]
      | 1, _ => simp [ints]⟩⟩
  rw [of_two] at h
  exact h
theorem places_33 : ((places 33).take 9).length = 2 := by decide +kernel
theorem c_places (w : World) (hT : Tab w) : Calls Tryd.prog 25 #[.int .u64 33, .int .i64 9] w fun e w' => ∃ A c, e = .returned (.slice A 2 c) ∧ Below w.heap.size w w' := by
  refine (places_any 33 9 (by decide) (by decide) (by decide) w hT).mono ?_
  rintro e w' ⟨v, rfl, hown, -, hb⟩
  obtain ⟨A, c, rfl, _⟩ := Lies.of_row hown
  rw [places_33]
  exact ⟨A, c, rfl, hb⟩

set_option maxRecDepth 100000 in
set_option maxHeartbeats 1000000 in
theorem alive_any (w : World) (hT : Tab w) :
    Calls Tryd.prog 9 #[] w fun e w' => e = .returned (.bool true) ∧ Below w.heap.size w w' := by
  have hT1 : ∀ o, Tab (w.alloc o) := fun o => hT.below hT.pos ((Below.refl _ w).alloc (Nat.le_refl _) o)
  have HT := Lib.hid hT1
  clear hT1
  go_enter Tryd.func9, Tryd.ntmps9
  go_wp2_with (first
    | (go_at_call 20; refine (c_sign _).mono ?_; rintro e w' ⟨rfl, rfl⟩)
    | (go_at_call 18; refine (c_low _).mono ?_; rintro e w' ⟨rfl, rfl⟩)
    | (go_at_call 13; refine (c_tou8 _).mono ?_; rintro e w' ⟨rfl, rfl⟩)
    | (go_at_call 10; refine (c_to8 _).mono ?_; rintro e w' ⟨rfl, rfl⟩)
    | (go_at_call 28; refine (c_halves _).mono ?_; rintro e w' ⟨rfl, rfl⟩)
    | (go_at_call 29; refine (c_join _).mono ?_; rintro e w' ⟨rfl, rfl⟩)
    | (go_at_call 22; refine (c_rot _).mono ?_; rintro e w' ⟨rfl, rfl⟩)
    | (go_at_call 26; refine (c_of _).mono ?_; rintro e w' ⟨rfl, rfl⟩)
    | (go_at_call 25; refine (c_places _ (HT.out _)).mono ?_; rintro e w' ⟨A, c, rfl, hb⟩))
  go_ret
  exact ⟨rfl, ((Below.refl _ w).alloc (Nat.le_refl _) _).trans (hb.mono (by simp))⟩
end Go.Proofs.YtoilbmhijjkkaaaDoor
