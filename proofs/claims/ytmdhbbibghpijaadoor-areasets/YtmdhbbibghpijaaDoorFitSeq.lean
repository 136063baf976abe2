/- The places of a number's bits, one by one: math/bits.TrailingZeros64, fit.Bits, and the law's own places. -/
import Derived.Test.YtmdhbbibghpijaaDoorProg
import Derived.Test.YtmdhbbibghpijaaDoorFitMath
import Derived.RangeFuncNested
import Derived.RangeFuncBound
import Derived.RangeFuncCalls
import Derived.RangeFuncLeaves
import Derived.RangeFuncBox
import Derived.Shelf.Abstract
import Derived.Shelf.RegionOpen
import Derived.WalkKit
import Derived.OwnWalkIn
import Derived.TacticsInMore
import Derived.LoopNIn
import Derived.LoopIn
import Derived.Maps.AppendAt
import Derived.Lib.Hide
namespace Go.Proofs.YtmdhbbibghpijaaDoor
open Go.RowKit Go.Shelf
attribute [local go_sem] Oper.semAt_some

/-- The table in its variable. -/
def Tab (w : World) : Prop := ∀ j, j < 64 → w.cell? ⟨0, j, none⟩ = some (.int .u8 (Lib.deBruijn64tab.getD j 0))
theorem Tab.pos {w : World} (h : Tab w) : 0 < w.heap.size := by
  have := h 0 (by decide)
  apply Nat.lt_of_not_le
  intro hle
  rw [World.cell?, Array.getElem?_eq_none hle] at this
  simp at this
theorem Tab.below {n : Nat} {w w' : World} (h : Tab w) (hn : 0 < n) (hb : Below n w w') : Tab w' := fun j hj => (hb.cell (p := ⟨0, j, none⟩) hn).trans (h j hj)

theorem tz_core (x k idx : Nat) (w : World) (hx0 : ((x : Int) == 0) = false)
    (key : IntKind.u64.wrap (bits BinOp.and IntKind.u64 (x : Int) (IntKind.u64.wrap (-(x : Int))) * 285870213051353865) / 288230376151711744 = (idx : Int))
    (hi : idx < 64) (hk : k < 64) (hcell : w.cell? ⟨0, idx, none⟩ = some (.int .u8 k)) :
    Calls Tryd.prog 63 #[.int .u64 x] w fun e w' => e = .returned (.int .i64 k) ∧ w = w' := by
  go_enter Tryd.func63, Tryd.ntmps63
  go_wp2_with (simp only [key])
  go_ret
  exact ⟨rfl, rfl⟩

theorem tz_key (x a : Nat) (hx : x < 18446744073709551616) (hx0 : x ≠ 0) (hlow : x &&& (18446744073709551616 - x) = a) :
    IntKind.u64.wrap (bits BinOp.and IntKind.u64 (x : Int) (IntKind.u64.wrap (-(x : Int))) * 285870213051353865) / 288230376151711744 = ((a * 285870213051353865 % 18446744073709551616 / 288230376151711744 : Nat) : Int) := by
  have e1 : IntKind.u64.wrap (-(x : Int)) = ((18446744073709551616 - x : Nat) : Int) := by rw [IntKind.wrap_u64]; omega
  rw [e1, bits_and_u64_nat x _ hx (by omega), hlow, IntKind.wrap_u64]
  omega

theorem tz_any (x : Nat) (w : World) (hx : x < 18446744073709551616) (hx0 : x ≠ 0) (hT : Tab w) :
    Calls Tryd.prog 63 #[.int .u64 x] w fun e w' => e = .returned (.int .i64 (Lib.ctz 64 x)) ∧ w = w' := by
  obtain ⟨hlow, hk⟩ := Lib.lowest_bit 64 x hx0 hx
  obtain ⟨hi, htab⟩ := Lib.deBruijn64_at _ hk
  have hcell := hT _ hi
  rw [htab] at hcell
  exact tz_core x _ _ w (by simp; omega) (tz_key x _ hx hx0 hlow) hi hk hcell

set_option maxRecDepth 100000 in
set_option maxHeartbeats 1000000 in
theorem bits1_in (n : Nat) (hn : 1 ≤ n) (l Bn n₀ : Nat) (x0 : Nat) (hx : x0 < 18446744073709551616) (h₀ : 0 < n₀) (J Jx : List Nat → World → Prop)
    (hY : ∀ pre (x : Nat) W, J pre W → pre.length < (places x0).length → YieldAt Fence.wide (n - 1) Tryd.prog l #[.int .i64 x] W fun e W' =>
      (e = .returned (.bool true) ∧ J (pre ++ [x]) W' ∧ Below n₀ W W') ∨ (e = .returned (.bool false) ∧ Jx (pre ++ [x]) W'))
    (W : World) (hT : Tab W) (hBn : W.cell? ⟨Bn, 0, none⟩ = some (.int .u64 x0)) (h0 : J [] W) :
    CallsIn Fence.wide n Tryd.prog 62 #[.func (.yield l) #[] #[], .pointer (some ⟨Bn, 0, none⟩)] W fun e W' => (∃ v, e = .returned v) ∧
      ((∃ ys, ys = places x0 ∧ J ys W') ∨ (∃ pre, pre <+: places x0 ∧ Jx pre W')) := by
  refine callsIn_of_wp Tryd.func62 rfl trivial ?_ rfl
  simp only [Tryd.ntmps62, List.size_toArray, List.length_cons, List.length_nil, Nat.reduceAdd, Nat.reduceSub, Array.replicate_succ, Array.replicate_zero, List.push_toArray, List.append_toArray, List.nil_append, List.cons_append]
  gi_wp2
  gi_loopw [3] (fun p wr => ∃ (pre : List Nat) (q : Nat), p = .int .u64 q ∧ q < 18446744073709551616 ∧ places x0 = pre ++ places q ∧ Tab wr ∧ J pre wr)
    (fun p _ => (intOf p).toNat)
  case atStart =>
    exact ⟨[], x0, rfl, hx, rfl, hT, h0⟩
  case round =>
    obtain ⟨pre, q, rfl, hq, hxs, hTr, hJs⟩ := hrel
    have HX := Lib.hid hxs
    clear hxs
    by_cases hq0 : q = 0
    · subst hq0
      gi_wp2
      go_end0
      exact ⟨⟨_, rfl⟩, .inl ⟨pre, by rw [HX.out, places_zero]; simp, hJs⟩⟩
    · have hne : ((q : Int) != 0) = true := by rw [bne_iff_ne]; omega
      have HC := Lib.hid (places_cons q hq0 hq)
      have HB := low_bit q hq0 hq
      obtain ⟨-, -, -, hlt, hdn⟩ := HB
      obtain ⟨fn, tmps, assign, body, hy, hR⟩ := hY pre (Lib.ctz 64 q) wr hJs (by rw [HX.out, HC.out]; simp)
      gi_wp2_with (refine ⟨trivial, ?_⟩; gi_at_call 63; refine (callsIn_wide.2 (tz_any q _ hq hq0 hTr)).mono ?_; rintro e w' ⟨rfl, rfl⟩)
      refine hR.mono ?_
      rintro e W3 (⟨rfl, hJ3, hk3⟩ | ⟨rfl, hJx3⟩)
      · have hand : bits BinOp.and IntKind.u64 (q : Int) ((q : Int) - 1) = ((q &&& (q - 1) : Nat) : Int) := by
          rw [show (q : Int) - 1 = ((q - 1 : Nat) : Int) from by omega, bits_and_u64_nat _ _ hq (by omega)]
        gi_wp2
        go_roundw
        case rel => exact ⟨pre ++ [Lib.ctz 64 q], q &&& (q - 1), rfl, by omega, by rw [HX.out, HC.out]; simp, hTr.below h₀ hk3, hJ3⟩
        case measure => simp [intOf]; omega
      · gi_wp2
        refine bodyPost_ret (results_none rfl _ _ _) rfl ?_
        exact ⟨⟨_, rfl⟩, .inr ⟨pre ++ [Lib.ctz 64 q], ⟨places (q &&& (q - 1)), by rw [HX.out, HC.out]; simp⟩, hJx3⟩⟩

set_option maxHeartbeats 1000000 in
/-- fit.Bits: its number is boxed; what it answers holds the box. -/
theorem bits_in (n : Nat) (x0 : Nat) (w : World) :
    CallsIn Fence.wide n Tryd.prog 36 #[.int .u64 x0] w fun e w' => e = .returned (.func (.func 62) #[] #[.pointer (some ⟨w.heap.size, 0, none⟩)]) ∧ w' = w.alloc (.cells #[.int .u64 x0] 55) := by
  refine callsIn_of_wp Tryd.func36 rfl trivial ?_ rfl
  simp only [Tryd.ntmps36, List.size_toArray, List.length_cons, List.length_nil, Nat.reduceAdd, Nat.reduceSub, Array.replicate_succ, Array.replicate_zero, List.push_toArray, List.append_toArray, List.nil_append, List.cons_append]
  gi_wp2
  go_ret
  exact ⟨rfl, rfl⟩

/-- What fit.Bits answers goes through the places of the bits; or through some of them, where a round has said no more. -/
theorem bits_stops (n : Nat) (hn : 1 ≤ n) (Bn n₀ : Nat) (x0 : Nat) (hx : x0 < 18446744073709551616) (h₀ : 0 < n₀) (w : World) (hBn : Bn < w.heap.size) (hn₀ : n₀ ≤ w.heap.size)
    (hT : Tab w) (hc : w.cell? ⟨Bn, 0, none⟩ = some (.int .u64 x0)) :
    SeqStopsK Fence.wide n Tryd.prog 62 #[.pointer (some ⟨Bn, 0, none⟩)] (fun x : Nat => #[Value.int .i64 x]) (Below n₀) (fun ys => ys = places x0) (fun pre => pre <+: places x0) (places x0).length w := fun l J Jx W hW _ _ hY h0 =>
  bits1_in n hn l Bn n₀ x0 hx h₀ J Jx hY W (hT.below h₀ (hW.mono hn₀)) ((hW.cell (p := ⟨Bn, 0, none⟩) hBn).trans hc) h0
end Go.Proofs.YtmdhbbibghpijaaDoor
