/- label.From and fit.Low; the document's From and Number. -/
import Derived.Test.YtjhakgnjodocpabLabDom
import Derived.Test.YtjhakgnjodocpabFitIntMath
namespace Go.Proofs.Ytjhakgnjodocpab
open Go.RowKit

theorem wrap16 (n : Int) (h0 : 0 ≤ n) (h1 : n ≤ 65535) : IntKind.u16.wrap n = n := by
  simp only [IntKind.wrap, IntKind.bits, IntKind.signed]
  simp
  omega
theorem above_16 (w : World) :
    Calls Try.prog 24 #[.int .i64 16] w fun e w' => e = .returned (.int .i64 48) ∧ w = w' := by
  go_enter Try.func24, Try.ntmps24
  go_wp2
  go_ret
  exact ⟨rfl, rfl⟩
theorem low16_key (n : Int) : IntKind.u64.wrap (n * 281474976710656) / 281474976710656 = n % 65536 := by
  have := low_int n 16 (by decide)
  exact this
theorem low_16 (n : Int) (w : World) :
    Calls Try.prog 21 #[.int .u64 n, .int .i64 16] w fun e w' => e = .returned (.int .u64 (n % 65536)) ∧ w = w' := by
  have HK := Lib.hid (low16_key n)
  go_enter Try.func21, Try.ntmps21
  go_wp2_with (go_at_call 24; refine (above_16 _).mono ?_; rintro e w' ⟨rfl, rfl⟩)
  go_ret
  exact ⟨ret_int HK.out, rfl⟩

/-- A number's label, and the error. -/
def frL (n : Int) : Lb := if n < 1048576 then ⟨n / 65536, n % 65536⟩ else ⟨0, 0⟩
def frE (n : Int) : Int := if n < 1048576 then 0 else 23
theorem ret_from {a b c a' b' c' : Int} (h1 : a = a') (h2 : b = b') (h3 : c = c') : Ending.returned (.tuple #[.agg #[.int .u8 a, .int .u16 b], .int .i64 c]) = .returned (.tuple #[.agg #[.int .u8 a', .int .u16 b'], .int .i64 c']) := by rw [h1, h2, h3]
set_option maxHeartbeats 1000000 in
theorem from_any (n : Int) (w : World) (h0 : 0 ≤ n) :
    Calls Try.prog 9 #[.int .u64 n] w fun e w' => e = .returned (.tuple #[.agg #[.int .u8 (frL n).lv, .int .u16 (frL n).ct], .int .i64 (frE n)]) ∧ Keep w w' := by
  by_cases h : n < 1048576
  · have HL := Lib.hid (show frL n = ⟨n / 65536, n % 65536⟩ from if_pos h)
    have HE := Lib.hid (show frE n = 0 from if_pos h)
    have e1 : IntKind.u8.wrap (n / 65536) = n / 65536 := by rw [IntKind.wrap_u8']; omega
    have e2 : IntKind.u16.wrap (n % 65536) = n % 65536 := wrap16 _ (by omega) (by omega)
    go_enter Try.func9, Try.ntmps9
    go_wp2_with (go_at_call 21; refine (low_16 _ _).mono ?_; rintro e w' ⟨rfl, rfl⟩)
    exact bodyPost_ret (v := .tuple #[.agg #[.int .u8 (n / 65536), .int .u16 (n % 65536)], .int .i64 0]) (by simp [results, Try.results9, go_sem]) rfl ⟨ret_from (by rw [HL.out]) (by rw [HL.out]) HE.out.symm, (Keep.refl w).alloc _⟩
  · have HL := Lib.hid (show frL n = ⟨0, 0⟩ from if_neg h)
    have HE := Lib.hid (show frE n = 23 from if_neg h)
    go_enter Try.func9, Try.ntmps9
    go_wp2
    exact bodyPost_ret (v := .tuple #[.agg #[.int .u8 0, .int .u16 0], .int .i64 23]) (by simp [results, Try.results9, go_sem]) rfl ⟨ret_from (by rw [HL.out]) (by rw [HL.out]) HE.out.symm, (Keep.refl w).alloc _⟩
set_option maxHeartbeats 1000000 in
theorem rfrom_any (n : Int) (w : World) (h0 : 0 ≤ n) :
    Calls Try.prog 10 #[.int .u64 n] w fun e w' => e = .returned (.tuple #[.agg #[.int .u8 (frL n).lv, .int .u16 (frL n).ct], .int .i64 (frE n)]) ∧ Keep w w' := by
  by_cases h : n < 1048576
  · have HL := Lib.hid (show frL n = ⟨n / 65536, n % 65536⟩ from if_pos h)
    have HE := Lib.hid (show frE n = 0 from if_pos h)
    have e1 : IntKind.u8.wrap (n / 65536) = n / 65536 := by rw [IntKind.wrap_u8']; omega
    have e2 : IntKind.u16.wrap (n % 65536) = n % 65536 := wrap16 _ (by omega) (by omega)
    go_enter Try.func10, Try.ntmps10
    go_wp2
    exact bodyPost_ret (v := .tuple #[.agg #[.int .u8 (n / 65536), .int .u16 (n % 65536)], .int .i64 0]) (by simp [results, Try.results10, go_sem]) rfl ⟨ret_from (by rw [HL.out]) (by rw [HL.out]) HE.out.symm, (Keep.refl w).alloc _⟩
  · have HL := Lib.hid (show frL n = ⟨0, 0⟩ from if_neg h)
    have HE := Lib.hid (show frE n = 23 from if_neg h)
    go_enter Try.func10, Try.ntmps10
    go_wp2
    exact bodyPost_ret (v := .tuple #[.agg #[.int .u8 0, .int .u16 0], .int .i64 23]) (by simp [results, Try.results10, go_sem]) rfl ⟨ret_from (by rw [HL.out]) (by rw [HL.out]) HE.out.symm, (Keep.refl w).alloc _⟩
theorem rnumber_any (a : Lb) (w : World) (ha : a.ok) :
    Calls Try.prog 19 #[.agg #[.int .u8 a.lv, .int .u16 a.ct]] w fun e w' => e = .returned (.int .u64 (nm a)) ∧ Keep w w' := by
  obtain ⟨⟨h1, h2⟩, h3, h4⟩ := ha
  go_enter Try.func19, Try.ntmps19
  go_wp2
  go_ret
  exact ⟨ret_int (by unfold nm; omega), (Keep.refl w).alloc _⟩
end Go.Proofs.Ytjhakgnjodocpab
