/- The walk of FitLows. -/
import Derived.Test.YtoilbmhijjkkaaaDoorFitAlive
import Derived.Test.YtoilbmhijjkkaaaDoorFitInt
namespace Go.Proofs.YtoilbmhijjkkaaaDoor
open Go.RowKit

theorem and_mask (m : Int) (s : Nat) (hs : s < 63) : bits BinOp.and IntKind.i64 m (((2 ^ s - 1 : Nat) : Nat) : Int) = m % twoP s := by
  have hp : 2 ^ s ≤ 2 ^ 62 := Nat.pow_le_pow_right (by decide) (by omega)
  have hp0 : 0 < 2 ^ s := Nat.two_pow_pos s
  have e1 : (BitVec.ofInt 64 m &&& BitVec.ofInt 64 (((2 ^ s - 1 : Nat) : Nat) : Int)).toNat = (m % 18446744073709551616).toNat % 2 ^ s := by
    rw [BitVec.toNat_and, BitVec.ofInt_natCast, BitVec.toNat_ofNat, BitVec.toNat_ofInt, Nat.mod_eq_of_lt (show 2 ^ s - 1 < 2 ^ 64 by omega), Nat.and_two_pow_sub_one_eq_mod]
    rfl
  have e2 : ((m % 18446744073709551616).toNat % 2 ^ s : Nat) < 2 ^ s := Nat.mod_lt _ hp0
  have e3 : (((m % 18446744073709551616).toNat % 2 ^ s : Nat) : Int) = m % twoP s := by
    rw [Int.natCast_emod, Int.toNat_of_nonneg (by omega), ← twoP_64]
    exact Int.emod_emod_of_dvd m (twoP_dvd (by omega))
  show IntKind.i64.wrap ((BitVec.ofInt 64 m &&& BitVec.ofInt 64 (((2 ^ s - 1 : Nat) : Nat) : Int)).toNat : Int) = _
  rw [e1, ← e3]
  generalize ((m % 18446744073709551616).toNat % 2 ^ s : Nat) = y at *
  simp only [IntKind.wrap, IntKind.bits, IntKind.signed]
  simp
  omega
theorem and_63 (m : Int) : bits BinOp.and IntKind.i64 m 63 = (((m % 64).toNat : Nat) : Int) := by
  have := and_mask m 6 (by decide)
  rw [show (twoP 6) = 64 from rfl] at this
  rw [show (((m % 64).toNat : Nat) : Int) = m % 64 from by omega, ← this]
  rfl

theorem min_key (a : Int) (m n : Nat) (hm : m < 64) (hn : n < 64) : lowI (lowI a m) n = lowI a (if n < m then (n : Int) else (m : Int)) := by
  rw [low_low a m n (by omega) (by omega)]
  split
  · rw [Nat.min_eq_right (by omega)]
  · rw [Nat.min_eq_left (by omega)]

theorem wrap_neg (k : Nat) (hk : k < 63) : wrap64 (-2 ^ k) = -twoP k ∧ wrap64 (2 ^ k) = twoP k := by
  have e : ((2 : Int) ^ k) = twoP k := by simp [twoP]
  have h1 := twoP_pos k
  have h2 := twoP_le (show k ≤ 62 by omega)
  rw [show twoP 62 = 4611686018427387904 from rfl] at h2
  rw [e]
  unfold wrap64
  omega

set_option maxRecDepth 100000 in
set_option maxHeartbeats 1000000 in
theorem lows_zero (a b : Int) (mi ni : Int) (n : Nat) (w : World) (hT : Tab w) (hn : n < 64) (em : bits BinOp.and IntKind.i64 mi 63 = 0) (en : bits BinOp.and IntKind.i64 ni 63 = (n : Int)) :
    Calls Tryd.prog 6 #[.int .u64 a, .int .u64 b, .int .i64 mi, .int .i64 ni] w fun e w' => e = .returned (.bool true) ∧ Below w.heap.size w w' := by
  have f1 : (lowI (IntKind.u64.wrap (a + b)) 0 != lowI (IntKind.u64.wrap (lowI a 0 + lowI b 0)) 0) = false := by
    rw [bne_eq_false_iff_eq]; exact low_add a b 0 (by omega)
  have f2 : (lowI (IntKind.u64.wrap (a * b)) 0 != lowI (IntKind.u64.wrap (lowI a 0 * lowI b 0)) 0) = false := by
    rw [bne_eq_false_iff_eq]; exact low_mul a b 0 (by omega)
  have f3 : (lowI (lowI a 0) n != lowI a 0) = false := by
    rw [bne_eq_false_iff_eq]; exact (low_low a 0 n (by omega) (by omega)).trans (by rw [Nat.min_eq_left (by omega)]; rfl)
  have f4 : sgnI a 0 = 0 := sgn_zero a
  have f5 : (lowI 0 0 == lowI a 0) = true := by
    rw [beq_iff_eq]
    have := low_sgn a 0 (by omega)
    rw [show (((0 : Nat) : Int)) = 0 from rfl, f4] at this
    exact this
  have f6 : sgnI 0 0 = 0 := sgn_zero 0
  go_enter Tryd.func6, Tryd.ntmps6
  go_wp2_with (first
    | (go_at_call 9; refine (alive_any _ hT).mono ?_; rintro e w1 ⟨rfl, hw1⟩)
    | (go_at_call 18; refine (low_i _ _ _).mono ?_; rintro e w' ⟨rfl, rfl⟩)
    | (go_at_call 20; refine (sign_i _ _ _).mono ?_; rintro e w' ⟨rfl, rfl⟩))
  all_goals go_ret
  all_goals exact ⟨rfl, hw1⟩
set_option maxRecDepth 100000 in
set_option maxHeartbeats 1000000 in
theorem lows_succ (a b : Int) (mi ni : Int) (k n : Nat) (w : World) (hT : Tab w) (hm : k + 1 < 64) (hn : n < 64) (em : bits BinOp.and IntKind.i64 mi 63 = ((k + 1 : Nat) : Int)) (en : bits BinOp.and IntKind.i64 ni 63 = (n : Int)) :
    Calls Tryd.prog 6 #[.int .u64 a, .int .u64 b, .int .i64 mi, .int .i64 ni] w fun e w' => e = .returned (.bool true) ∧ Below w.heap.size w w' := by
  obtain ⟨m, hmk⟩ : ∃ m, m = k + 1 := ⟨_, rfl⟩
  rw [← hmk] at em hm
  have f1 : (lowI (IntKind.u64.wrap (a + b)) m != lowI (IntKind.u64.wrap (lowI a m + lowI b m)) m) = false := by
    rw [bne_eq_false_iff_eq]; exact low_add a b m (by omega)
  have f2 : (lowI (IntKind.u64.wrap (a * b)) m != lowI (IntKind.u64.wrap (lowI a m * lowI b m)) m) = false := by
    rw [bne_eq_false_iff_eq]; exact low_mul a b m (by omega)
  have f3 : (lowI (lowI a m) n != lowI a (if n < m then (n : Int) else (m : Int))) = false := by
    rw [bne_eq_false_iff_eq]; exact min_key a m n hm hn
  have f4 : (sgnI (IntKind.u64.wrap (sgnI a m)) m == sgnI a m) = true := by rw [beq_iff_eq]; exact sgn_sgn a m (by omega)
  have f5 : (lowI (IntKind.u64.wrap (sgnI a m)) m == lowI a m) = true := by rw [beq_iff_eq]; exact low_sgn a m (by omega)
  have f6 : wrap64 (-2 ^ (m - 1)) ≤ sgnI a m := by rw [hmk, Nat.add_sub_cancel, (wrap_neg k (by omega)).1]; exact (sgn_bd a k (by omega)).1
  have f7 : sgnI a m < wrap64 (2 ^ (m - 1)) := by rw [hmk, Nat.add_sub_cancel, (wrap_neg k (by omega)).2]; exact (sgn_bd a k (by omega)).2
  have hm0 : ((m : Int) == 0) = false := by rw [beq_eq_false_iff_ne]; omega
  have hm1 : 1 ≤ m := by omega
  clear hmk
  go_enter Tryd.func6, Tryd.ntmps6
  go_wp2_with (first
    | (go_at_call 9; refine (alive_any _ hT).mono ?_; rintro e w1 ⟨rfl, hw1⟩)
    | (go_at_call 18; refine (low_i _ _ _).mono ?_; rintro e w' ⟨rfl, rfl⟩)
    | (go_at_call 20; refine (sign_i _ _ _).mono ?_; rintro e w' ⟨rfl, rfl⟩))
  all_goals go_ret
  all_goals exact ⟨rfl, hw1⟩
theorem FitLows_std (a0 : Int) (_w0 : (Lit.int .u64 a0).wf = true) (a1 : Int) (_w1 : (Lit.int .u64 a1).wf = true) (a2 : Int) (_w2 : (Lit.int .i64 a2).wf = true) (a3 : Int) (_w3 : (Lit.int .i64 a3).wf = true) (w : World) (hT : Tab w) :
    Calls Tryd.prog 6 #[.int .u64 a0, .int .u64 a1, .int .i64 a2, .int .i64 a3] w fun e w' => e = .returned (.bool true) ∧ Below w.heap.size w w' := by
  have e2 := and_63 a2
  have e3 := and_63 a3
  have h3 : (a3 % 64).toNat < 64 := by omega
  have h2 : (a2 % 64).toNat < 64 := by omega
  rcases hk : (a2 % 64).toNat with _ | k
  · rw [hk] at e2
    exact lows_zero a0 a1 a2 a3 _ w hT h3 e2 e3
  · rw [hk] at e2 h2
    exact lows_succ a0 a1 a2 a3 k _ w hT h2 h3 e2 e3
end Go.Proofs.YtoilbmhijjkkaaaDoor
