/- The contracts of fit's functions that only reckon. -/
import Derived.Test.YtoilbmhijjkkaaaDoorProg
import Derived.Test.YtoilbmhijjkkaaaDoorFitMath
import Derived.WalkKit
import Derived.WalkSpells
import Derived.WalkLawsBesides
namespace Go.Proofs.YtoilbmhijjkkaaaDoor
open Go.RowKit

theorem ret_int {k : IntKind} {a b : Int} (h : a = b) : Ending.returned (.int k a) = .returned (.int k b) := by rw [h]

/-- Is a number from lo to hi? -/
def fits (lo hi n : Int) : Bool := decide (lo ≤ n ∧ n ≤ hi)
/-- The number, where it is; else nought. -/
def cutv (lo hi n : Int) : Int := if lo ≤ n ∧ n ≤ hi then n else 0
theorem fits_yes {lo hi n : Int} (h1 : lo ≤ n) (h2 : n ≤ hi) : fits lo hi n = true := by simp [fits, h1, h2]
theorem fits_no {lo hi n : Int} (h : n < lo ∨ hi < n) : fits lo hi n = false := by simp [fits]; omega
theorem cutv_yes {lo hi n : Int} (h1 : lo ≤ n) (h2 : n ≤ hi) : cutv lo hi n = n := by simp [cutv, h1, h2]
theorem cutv_no {lo hi n : Int} (h : n < lo ∨ hi < n) : cutv lo hi n = 0 := by unfold cutv; rw [if_neg (by omega)]
theorem cutv_bd (lo hi n : Int) (h0 : lo ≤ 0) (h1 : 0 ≤ hi) : lo ≤ cutv lo hi n ∧ cutv lo hi n ≤ hi := by unfold cutv; split <;> omega

theorem to8_yes (n : Int) (w : World) (h1 : -128 ≤ n) (h2 : n ≤ 127) :
    Calls Tryd.prog 10 #[.int .i64 n] w fun e w' => e = .returned (.tuple #[.int .i8 n, .bool true]) ∧ w = w' := by
  go_enter Tryd.func10, Tryd.ntmps10
  go_wp2
  go_ret2
  exact ⟨rfl, rfl⟩
theorem to8_no (n : Int) (w : World) (ha : -9223372036854775808 ≤ n) (hb : n ≤ 9223372036854775807) (h : n < -128 ∨ 127 < n) :
    Calls Tryd.prog 10 #[.int .i64 n] w fun e w' => e = .returned (.tuple #[.int .i8 0, .bool false]) ∧ w = w' := by
  have hne : (wrap64 (IntKind.i8.wrap n) != n) = true := by
    rw [bne_iff_ne]
    simp only [wrap64, IntKind.wrap, IntKind.bits, IntKind.signed]
    simp
    omega
  clear h
  go_enter Tryd.func10, Tryd.ntmps10
  go_wp2
  go_ret2
  exact ⟨rfl, rfl⟩
theorem to8_any (n : Int) (w : World) (ha : -9223372036854775808 ≤ n) (hb : n ≤ 9223372036854775807) :
    Calls Tryd.prog 10 #[.int .i64 n] w fun e w' => e = .returned (.tuple #[.int .i8 (cutv (-128) 127 n), .bool (fits (-128) 127 n)]) ∧ w = w' := by
  by_cases h : -128 ≤ n ∧ n ≤ 127
  · rw [cutv_yes h.1 h.2, fits_yes h.1 h.2]; exact to8_yes n w h.1 h.2
  · rw [cutv_no (by omega), fits_no (by omega)]; exact to8_no n w ha hb (by omega)

theorem to16_yes (n : Int) (w : World) (h1 : -32768 ≤ n) (h2 : n ≤ 32767) :
    Calls Tryd.prog 11 #[.int .i64 n] w fun e w' => e = .returned (.tuple #[.int .i16 n, .bool true]) ∧ w = w' := by
  go_enter Tryd.func11, Tryd.ntmps11
  go_wp2
  go_ret2
  exact ⟨rfl, rfl⟩
theorem to16_no (n : Int) (w : World) (ha : -9223372036854775808 ≤ n) (hb : n ≤ 9223372036854775807) (h : n < -32768 ∨ 32767 < n) :
    Calls Tryd.prog 11 #[.int .i64 n] w fun e w' => e = .returned (.tuple #[.int .i16 0, .bool false]) ∧ w = w' := by
  have hne : (wrap64 (IntKind.i16.wrap n) != n) = true := by
    rw [bne_iff_ne]
    simp only [wrap64, IntKind.wrap, IntKind.bits, IntKind.signed]
    simp
    omega
  clear h
  go_enter Tryd.func11, Tryd.ntmps11
  go_wp2
  go_ret2
  exact ⟨rfl, rfl⟩
theorem to16_any (n : Int) (w : World) (ha : -9223372036854775808 ≤ n) (hb : n ≤ 9223372036854775807) :
    Calls Tryd.prog 11 #[.int .i64 n] w fun e w' => e = .returned (.tuple #[.int .i16 (cutv (-32768) 32767 n), .bool (fits (-32768) 32767 n)]) ∧ w = w' := by
  by_cases h : -32768 ≤ n ∧ n ≤ 32767
  · rw [cutv_yes h.1 h.2, fits_yes h.1 h.2]; exact to16_yes n w h.1 h.2
  · rw [cutv_no (by omega), fits_no (by omega)]; exact to16_no n w ha hb (by omega)

theorem to32_yes (n : Int) (w : World) (h1 : -2147483648 ≤ n) (h2 : n ≤ 2147483647) :
    Calls Tryd.prog 12 #[.int .i64 n] w fun e w' => e = .returned (.tuple #[.int .i32 n, .bool true]) ∧ w = w' := by
  go_enter Tryd.func12, Tryd.ntmps12
  go_wp2
  go_ret2
  exact ⟨rfl, rfl⟩
theorem to32_no (n : Int) (w : World) (ha : -9223372036854775808 ≤ n) (hb : n ≤ 9223372036854775807) (h : n < -2147483648 ∨ 2147483647 < n) :
    Calls Tryd.prog 12 #[.int .i64 n] w fun e w' => e = .returned (.tuple #[.int .i32 0, .bool false]) ∧ w = w' := by
  have hne : (wrap64 (wrap32 n) != n) = true := by
    rw [bne_iff_ne]
    simp only [wrap64, wrap32]
    omega
  clear h
  go_enter Tryd.func12, Tryd.ntmps12
  go_wp2
  go_ret2
  exact ⟨rfl, rfl⟩
theorem to32_any (n : Int) (w : World) (ha : -9223372036854775808 ≤ n) (hb : n ≤ 9223372036854775807) :
    Calls Tryd.prog 12 #[.int .i64 n] w fun e w' => e = .returned (.tuple #[.int .i32 (cutv (-2147483648) 2147483647 n), .bool (fits (-2147483648) 2147483647 n)]) ∧ w = w' := by
  by_cases h : -2147483648 ≤ n ∧ n ≤ 2147483647
  · rw [cutv_yes h.1 h.2, fits_yes h.1 h.2]; exact to32_yes n w h.1 h.2
  · rw [cutv_no (by omega), fits_no (by omega)]; exact to32_no n w ha hb (by omega)

theorem tou8_yes (n : Int) (w : World) (h1 : 0 ≤ n) (h2 : n ≤ 255) :
    Calls Tryd.prog 13 #[.int .i64 n] w fun e w' => e = .returned (.tuple #[.int .u8 n, .bool true]) ∧ w = w' := by
  go_enter Tryd.func13, Tryd.ntmps13
  go_wp2
  go_ret2
  exact ⟨rfl, rfl⟩
theorem tou8_no (n : Int) (w : World) (ha : -9223372036854775808 ≤ n) (hb : n ≤ 9223372036854775807) (h : n < 0 ∨ 255 < n) :
    Calls Tryd.prog 13 #[.int .i64 n] w fun e w' => e = .returned (.tuple #[.int .u8 0, .bool false]) ∧ w = w' := by
  have hne : (n % 256 != n) = true := by
    rw [bne_iff_ne]
    omega
  clear h
  go_enter Tryd.func13, Tryd.ntmps13
  go_wp2
  go_ret2
  exact ⟨rfl, rfl⟩
theorem tou8_any (n : Int) (w : World) (ha : -9223372036854775808 ≤ n) (hb : n ≤ 9223372036854775807) :
    Calls Tryd.prog 13 #[.int .i64 n] w fun e w' => e = .returned (.tuple #[.int .u8 (cutv (0) 255 n), .bool (fits (0) 255 n)]) ∧ w = w' := by
  by_cases h : 0 ≤ n ∧ n ≤ 255
  · rw [cutv_yes h.1 h.2, fits_yes h.1 h.2]; exact tou8_yes n w h.1 h.2
  · rw [cutv_no (by omega), fits_no (by omega)]; exact tou8_no n w ha hb (by omega)

theorem tou16_yes (n : Int) (w : World) (h1 : 0 ≤ n) (h2 : n ≤ 65535) :
    Calls Tryd.prog 14 #[.int .i64 n] w fun e w' => e = .returned (.tuple #[.int .u16 n, .bool true]) ∧ w = w' := by
  go_enter Tryd.func14, Tryd.ntmps14
  go_wp2
  go_ret2
  exact ⟨rfl, rfl⟩
theorem tou16_no (n : Int) (w : World) (ha : -9223372036854775808 ≤ n) (hb : n ≤ 9223372036854775807) (h : n < 0 ∨ 65535 < n) :
    Calls Tryd.prog 14 #[.int .i64 n] w fun e w' => e = .returned (.tuple #[.int .u16 0, .bool false]) ∧ w = w' := by
  have hne : (wrap64 (IntKind.u16.wrap n) != n) = true := by
    rw [bne_iff_ne]
    simp only [wrap64, IntKind.wrap, IntKind.bits, IntKind.signed]
    simp
    omega
  clear h
  go_enter Tryd.func14, Tryd.ntmps14
  go_wp2
  go_ret2
  exact ⟨rfl, rfl⟩
theorem tou16_any (n : Int) (w : World) (ha : -9223372036854775808 ≤ n) (hb : n ≤ 9223372036854775807) :
    Calls Tryd.prog 14 #[.int .i64 n] w fun e w' => e = .returned (.tuple #[.int .u16 (cutv (0) 65535 n), .bool (fits (0) 65535 n)]) ∧ w = w' := by
  by_cases h : 0 ≤ n ∧ n ≤ 65535
  · rw [cutv_yes h.1 h.2, fits_yes h.1 h.2]; exact tou16_yes n w h.1 h.2
  · rw [cutv_no (by omega), fits_no (by omega)]; exact tou16_no n w ha hb (by omega)

theorem tou32_yes (n : Int) (w : World) (h1 : 0 ≤ n) (h2 : n ≤ 4294967295) :
    Calls Tryd.prog 15 #[.int .i64 n] w fun e w' => e = .returned (.tuple #[.int .u32 n, .bool true]) ∧ w = w' := by
  go_enter Tryd.func15, Tryd.ntmps15
  go_wp2
  go_ret2
  exact ⟨rfl, rfl⟩
theorem tou32_no (n : Int) (w : World) (ha : -9223372036854775808 ≤ n) (hb : n ≤ 9223372036854775807) (h : n < 0 ∨ 4294967295 < n) :
    Calls Tryd.prog 15 #[.int .i64 n] w fun e w' => e = .returned (.tuple #[.int .u32 0, .bool false]) ∧ w = w' := by
  have hne : (n % 4294967296 != n) = true := by
    rw [bne_iff_ne]
    omega
  clear h
  go_enter Tryd.func15, Tryd.ntmps15
  go_wp2
  go_ret2
  exact ⟨rfl, rfl⟩
theorem tou32_any (n : Int) (w : World) (ha : -9223372036854775808 ≤ n) (hb : n ≤ 9223372036854775807) :
    Calls Tryd.prog 15 #[.int .i64 n] w fun e w' => e = .returned (.tuple #[.int .u32 (cutv (0) 4294967295 n), .bool (fits (0) 4294967295 n)]) ∧ w = w' := by
  by_cases h : 0 ≤ n ∧ n ≤ 4294967295
  · rw [cutv_yes h.1 h.2, fits_yes h.1 h.2]; exact tou32_yes n w h.1 h.2
  · rw [cutv_no (by omega), fits_no (by omega)]; exact tou32_no n w ha hb (by omega)

theorem above_k (b : Int) (k : Nat) (h : (k : Int) = min (max b 0) 64) (w : World) :
    Calls Tryd.prog 32 #[.int .i64 b] w fun e w' => e = .returned (.int .i64 (64 - k)) ∧ w = w' := by
  have H : Hid (_ = _) := h
  clear h
  go_enter Tryd.func32, Tryd.ntmps32
  go_wp2
  all_goals
    go_ret
    exact ⟨ret_int (by have := H.out; omega), rfl⟩

theorem low_k (n : Nat) (b : Int) (k : Nat) (h : (k : Int) = min (max b 0) 64) (w : World) :
    Calls Tryd.prog 18 #[.int .u64 n, .int .i64 b] w fun e w' => e = .returned (.int .u64 ((n % 2 ^ k : Nat) : Int)) ∧ w = w' := by
  have hk : k ≤ 64 := by omega
  have H : Hid (_ = _) := h
  clear h
  go_enter Tryd.func18, Tryd.ntmps18
  go_wp2_with (go_at_call 32; refine (above_k _ k H.out _).mono ?_; rintro e w' ⟨rfl, rfl⟩)
  go_ret
  exact ⟨ret_int (low_key n k hk), rfl⟩

theorem sign_k (n : Nat) (b : Int) (k : Nat) (h : (k : Int) = min (max b 0) 64) (w : World) :
    Calls Tryd.prog 20 #[.int .u64 n, .int .i64 b] w fun e w' => e = .returned (.int .i64 (sgn n k)) ∧ w = w' := by
  have hk : k ≤ 64 := by omega
  have H : Hid (_ = _) := h
  clear h
  go_enter Tryd.func20, Tryd.ntmps20
  go_wp2_with (go_at_call 32; refine (above_k _ k H.out _).mono ?_; rintro e w' ⟨rfl, rfl⟩)
  go_ret
  exact ⟨ret_int (sign_key n k hk), rfl⟩

theorem halves_any (n : Nat) (w : World) (hn : n < 18446744073709551616) :
    Calls Tryd.prog 28 #[.int .u64 n] w fun e w' => e = .returned (.tuple #[.int .u32 ((n / 4294967296 : Nat) : Int), .int .u32 ((n % 4294967296 : Nat) : Int)]) ∧ w = w' := by
  go_enter Tryd.func28, Tryd.ntmps28
  go_wp2
  go_ret2
  exact ⟨rfl, rfl⟩

theorem join_any (h l : Nat) (w : World) (hh : h < 4294967296) (hl : l < 4294967296) :
    Calls Tryd.prog 29 #[.int .u32 h, .int .u32 l] w fun e w' => e = .returned (.int .u64 ((h * 4294967296 + l : Nat) : Int)) ∧ w = w' := by
  go_enter Tryd.func29, Tryd.ntmps29
  go_wp2
  go_ret
  refine ⟨ret_int ?_, rfl⟩
  have e1 : (h : Int) * 4294967296 = ((h * 4294967296 : Nat) : Int) := by simp
  rw [e1, bits_or_u64_nat _ _ (by omega) (by omega), nat_join 32 _ _ (by omega) (by omega)]

/-- The bits, turned round to the left by s places. -/
def rotN (n s : Nat) : Nat := n * 2 ^ s % 18446744073709551616 ||| n / 2 ^ (64 - s)

theorem rot64_any (n : Nat) (b : Int) (s : Nat) (w : World) (hn : n < 18446744073709551616) (hs : s < 64) (h : (s : Int) = b % 64) :
    Calls Tryd.prog 35 #[.int .u64 n, .int .i64 b] w fun e w' => e = .returned (.int .u64 (rotN n s)) ∧ w = w' := by
  have key : bits BinOp.and IntKind.u64 (IntKind.u64.wrap b) 63 = (s : Int) := by
    have e1 : IntKind.u64.wrap b = (((b % 18446744073709551616).toNat : Nat) : Int) := by rw [IntKind.wrap_u64]; omega
    rw [e1, show (63 : Int) = ((63 : Nat) : Int) from rfl, bits_and_u64_nat _ _ (by omega) (by omega), nat_mask6]
    omega
  have H : Hid (_ = _) := h
  clear h
  go_enter Tryd.func35, Tryd.ntmps35
  go_wp2
  go_ret
  refine ⟨ret_int ?_, rfl⟩
  have e1 : IntKind.u64.wrap ((n : Int) * 2 ^ s) = ((n * 2 ^ s % 18446744073709551616 : Nat) : Int) := by rw [IntKind.wrap_u64]; simp
  have e2 : (n : Int) / 2 ^ (64 - s) = ((n / 2 ^ (64 - s) : Nat) : Int) := by simp
  rw [e1, e2, bits_or_u64_nat _ _ (by omega) (Nat.lt_of_le_of_lt (Nat.div_le_self _ _) hn)]
  rfl

theorem rot_any (n : Nat) (b : Int) (s : Nat) (w : World) (hn : n < 18446744073709551616) (hs : s < 64) (h : (s : Int) = b % 64) :
    Calls Tryd.prog 22 #[.int .u64 n, .int .i64 b] w fun e w' => e = .returned (.int .u64 (rotN n s)) ∧ w = w' := by
  have H : Hid (_ = _) := h
  clear h
  go_enter Tryd.func22, Tryd.ntmps22
  go_wp2_with (go_at_call 35; refine (rot64_any _ _ s _ hn hs H.out).mono ?_; rintro e w' ⟨rfl, rfl⟩)
  go_ret
  exact ⟨rfl, rfl⟩
end Go.Proofs.YtoilbmhijjkkaaaDoor
