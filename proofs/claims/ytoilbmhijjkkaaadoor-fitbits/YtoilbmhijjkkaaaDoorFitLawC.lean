/- The walks of FitBack and FitHalves. -/
import Derived.Test.YtoilbmhijjkkaaaDoorFitAlive
import Derived.Test.YtoilbmhijjkkaaaDoorFitRotMath
import Derived.Test.YtoilbmhijjkkaaaDoorFitLawB
import Derived.OpenShut
namespace Go.Proofs.YtoilbmhijjkkaaaDoor
open Go.RowKit

/-- Nothing that lay has turned. -/
def Keep (w w' : World) : Prop := Below w.heap.size w w'
theorem Keep.refl (w : World) : Keep w w := Below.refl _ _
theorem Keep.trans {a b c : World} (h : Keep a b) (h' : Keep b c) : Keep a c := Below.trans h (Below.mono h' h.size)
theorem Tab.keep {a b : World} (hT : Tab a) (h : Keep a b) : Tab b := hT.below hT.pos h

theorem alive_k (w : World) (hT : Tab w) : Calls Tryd.prog 9 #[] w fun e w' => e = .returned (.bool true) ∧ Tab w' ∧ Keep w w' :=
  (alive_any w hT).mono fun _ _ ⟨he, hb⟩ => ⟨he, hT.keep hb, hb⟩

/-- A number of 64 bits. -/
def U64 (n : Int) : Prop := 0 ≤ n ∧ n < 18446744073709551616
theorem rot_u (n b : Int) (w : World) (h : U64 n) :
    Calls Tryd.prog 22 #[.int .u64 n, .int .i64 b] w fun e w' => e = .returned (.int .u64 (rotI n b)) ∧ w = w' := rot_i n b w h.1 h.2

/-- All places of a number's bits, as a slice that lies in memory. -/
def Has (w : World) (x : Int) (A : Option Addr) : Prop := Lies w w.heap.size A (pcI x) (ints (intsOf (places x.toNat)))
theorem places_k (x : Int) (w : World) (hx : U64 x) (hT : Tab w) :
    Calls Tryd.prog 25 #[.int .u64 x, .int .i64 100] w fun e w' => ∃ A c, e = .returned (.slice A (pcI x) c) ∧ Has w' x A ∧ Tab w' ∧ Keep w w' := by
  obtain ⟨h0, h1⟩ := hx
  have hl := places_length x.toNat
  have htk : (places x.toNat).take 100 = places x.toNat := List.take_of_length_le (by omega)
  have h := places_any x.toNat 100 (by decide) (by decide) (by omega) w hT
  rw [htk, show ((x.toNat : Nat) : Int) = x from by omega] at h
  refine h.mono ?_
  rintro e w' ⟨v, rfl, hown, -, hb⟩
  obtain ⟨A, c, rfl, hl⟩ := Lies.of_row hown
  exact ⟨A, c, rfl, by unfold Has; rw [ints_of]; exact hl, hT.keep hb, hb⟩
theorem of_k (x : Int) (A : Option Addr) (c : Nat) (w : World) (h0 : 0 ≤ x) (h1 : x < 18446744073709551616) (hh : Has w x A) :
    Calls Tryd.prog 26 #[.slice A (pcI x) c] w fun e w' => e = .returned (.int .u64 x) ∧ w = w' := by
  have := of_any A (pcI x) c _ w _ (by have := pcI_le x; unfold maxLen; omega) hh
  rw [of_places _ (by omega), show ((x.toNat : Nat) : Int) = x from by omega] at this
  exact this
theorem halves_i (n : Int) (w : World) (h0 : 0 ≤ n) (h1 : n < 18446744073709551616) :
    Calls Tryd.prog 28 #[.int .u64 n] w fun e w' => e = .returned (.tuple #[.int .u32 (n / 4294967296), .int .u32 (n % 4294967296)]) ∧ w = w' := by
  have := halves_any n.toNat w (by omega)
  rw [show ((n.toNat : Nat) : Int) = n from by omega, show (((n.toNat / 4294967296 : Nat)) : Int) = n / 4294967296 from by omega, show (((n.toNat % 4294967296 : Nat)) : Int) = n % 4294967296 from by omega] at this
  exact this
theorem join_i (h l : Int) (w : World) (h0 : 0 ≤ h) (h1 : h < 4294967296) (l0 : 0 ≤ l) (l1 : l < 4294967296) :
    Calls Tryd.prog 29 #[.int .u32 h, .int .u32 l] w fun e w' => e = .returned (.int .u64 (h * 4294967296 + l)) ∧ w = w' := by
  have := join_any h.toNat l.toNat w (by omega) (by omega)
  rw [show ((h.toNat : Nat) : Int) = h from by omega, show ((l.toNat : Nat) : Int) = l from by omega, show (((h.toNat * 4294967296 + l.toNat : Nat)) : Int) = h * 4294967296 + l from by omega] at this
  exact this

set_option maxRecDepth 100000 in
set_option maxHeartbeats 1000000 in
theorem back_core (n : Int) (by0 : Int) (b : Int) (w : World) (hT : Tab w) (h0 : 0 ≤ n) (h1 : n < 18446744073709551616) (hb0 : 0 ≤ b) (hb1 : b < 65536)
    (eb : bits BinOp.and IntKind.i64 by0 65535 = b) (em : bits BinOp.and IntKind.i64 b 63 = b % 64) :
    Calls Tryd.prog 5 #[.int .u64 n, .int .i64 by0] w fun e w' => e = .returned (.bool true) ∧ Keep w w' := by
  have un : U64 n := ⟨h0, h1⟩
  have ur : U64 (rotI n b) := rotI_bd n b h0 h1
  have f1 : (n / 4294967296 * 4294967296 + n % 4294967296 != n) = false := by rw [bne_eq_false_iff_eq]; omega
  have f2 : (sgnI n 64 != wrap64 n) = false := by
    rw [bne_eq_false_iff_eq, show (64 : Int) = ((64 : Nat) : Int) from rfl]
    unfold sgnI
    rw [lowI_nat n 64 (by decide), clampN_nat 64 (by decide), twoP_64, show twoP (64 - 1) = 9223372036854775808 from rfl]
    unfold wrap64
    split <;> omega
  have f3 : (lowI n 64 != n) = false := by
    rw [bne_eq_false_iff_eq, show (64 : Int) = ((64 : Nat) : Int) from rfl, lowI_nat n 64 (by decide), twoP_64]; omega
  have f4 : (lowI n 0 != 0) = false := by
    rw [bne_eq_false_iff_eq, show lowI n 0 = n % twoP 0 from lowI_nat n 0 (by decide), show twoP 0 = 1 from rfl]; omega
  have f5 : (rotI (rotI n b) (-b) != n) = false := by
    rw [bne_eq_false_iff_eq, rotI_rotI n b (-b) h0 h1]; exact rotI_zero n h0 h1 _ (by omega)
  have f6 : (rotI n b != rotI n (b % 64)) = false := by
    rw [bne_eq_false_iff_eq]; exact rotI_mod n b _ (by omega)
  obtain ⟨s0, s1⟩ := sgn_bd n 15 (by decide)
  rw [show twoP 15 = 32768 from rfl, show (((15 + 1 : Nat)) : Int) = 16 from rfl] at s0 s1
  have s2 : sgnI n 16 ≤ 32767 := by omega
  have f8 : (IntKind.u64.wrap (IntKind.u16.wrap (sgnI n 16)) == lowI n 16) = true := by
    have h : sgnI n 16 % 65536 = lowI n 16 := (sgn_mod n 16 (by decide)).trans (lowI_nat n 16 (by decide)).symm
    rw [beq_iff_eq, IntKind.wrap_u16, IntKind.wrap_u64, h, ← h]
    omega
  have f9 : (sgnI (lowI n 16) 16 == sgnI n 16) = true := by
    have h : lowI (lowI n 16) 16 = lowI n 16 := low_low n 16 16 (by decide) (by decide)
    rw [beq_iff_eq]
    conv => lhs; unfold sgnI
    rw [h]; rfl
  have f7 : pcI (rotI n b) = pcI n := pcI_rot n b h0 h1
  go_enter Tryd.func5, Tryd.ntmps5
  go_wp2_with (first
    | (go_at_call 9; refine (alive_k _ hT).mono ?_; rintro e w1 ⟨rfl, hT1, hk1⟩)
    | (go_at_call 18; refine (low_i _ _ _).mono ?_; rintro e w' ⟨rfl, rfl⟩)
    | (go_at_call 20; refine (sign_i _ _ _).mono ?_; rintro e w' ⟨rfl, rfl⟩)
    | (go_at_call 22; refine (rot_u _ _ _ (by assumption)).mono ?_; rintro e w' ⟨rfl, rfl⟩)
    | (go_at_call 28; refine (halves_i _ _ h0 h1).mono ?_; rintro e w' ⟨rfl, rfl⟩)
    | (go_at_call 29; refine (join_i _ _ _ (by omega) (by omega) (by omega) (by omega)).mono ?_; rintro e w' ⟨rfl, rfl⟩)
    | (go_at_call 25; refine (places_k _ _ (by assumption) (by assumption)).mono ?_; rintro e w' ⟨A, c, rfl, hh, hT', hk'⟩)
    | (go_at_call 11; refine (to16_yes _ _ s0 s2).mono ?_; rintro e w' ⟨rfl, rfl⟩)
    | (go_at_call 26; refine (of_k n _ _ _ h0 h1 (by assumption)).mono ?_; rintro e w' ⟨rfl, rfl⟩))
  go_ret
  exact ⟨rfl, by repeat (first | exact Keep.refl _ | assumption | refine Keep.trans ?_ (by assumption))⟩

theorem and_big (m : Int) : bits BinOp.and IntKind.i64 m 65535 = m % 65536 := by
  have := and_mask m 16 (by decide)
  rw [show (twoP 16) = 65536 from rfl] at this
  rw [← this]
  rfl
theorem and_63i (m : Int) : bits BinOp.and IntKind.i64 m 63 = m % 64 := by
  have := and_mask m 6 (by decide)
  rw [show (twoP 6) = 64 from rfl] at this
  rw [← this]
  rfl
theorem FitBack_std (a0 : Int) (w0 : (Lit.int .u64 a0).wf = true) (a1 : Int) (_w1 : (Lit.int .i64 a1).wf = true) (w : World) (hT : Tab w) :
    Calls Tryd.prog 5 #[.int .u64 a0, .int .i64 a1] w fun e w' => e = .returned (.bool true) ∧ Below w.heap.size w w' := by
  have h := bounds_u64 w0
  exact back_core a0 a1 (a1 % 65536) w hT (by omega) (by omega) (by omega) (by omega) (and_big a1) (and_63i _)
end Go.Proofs.YtoilbmhijjkkaaaDoor
