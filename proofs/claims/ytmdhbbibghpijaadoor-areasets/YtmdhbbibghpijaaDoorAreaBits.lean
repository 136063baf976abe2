/- fit.Bits as a range that says of each value that it comes; fit.Low. -/
import Derived.Test.YtmdhbbibghpijaaDoorAreaMask
import Derived.Test.YtmdhbbibghpijaaDoorFitSeq
namespace Go.Proofs.YtmdhbbibghpijaaDoor
open Go.RowKit Go.Shelf
attribute [local go_sem] Oper.semAt_some

set_option maxRecDepth 100000 in
set_option maxHeartbeats 1000000 in
theorem bits1_t (n : Nat) (hn : 1 ≤ n) (l Bn n₀ : Nat) (B0 : Nat) (x0 : Nat) (hx : x0 < 18446744073709551616) (h₀ : 0 < n₀) (J Jx : List Nat → World → Prop)
    (hY : ∀ pre (x : Nat) W, J pre W → pre ++ [x] <+: places x0 → B0 ≤ W.heap.size → pre.length < (places x0).length → YieldAt Fence.wide (n - 1) Tryd.prog l #[.int .i64 x] W fun e W' =>
      (e = .returned (.bool true) ∧ J (pre ++ [x]) W' ∧ Only (fun k => n₀ ≤ k) W W' ∧ SpStay W W') ∨ (e = .returned (.bool false) ∧ Jx (pre ++ [x]) W'))
    (W : World) (hn₀ : n₀ ≤ B0) (hB0 : B0 ≤ W.heap.size) (hT : Tab W) (hBn : W.cell? ⟨Bn, 0, none⟩ = some (.int .u64 x0)) (h0 : J [] W) :
    CallsIn Fence.wide n Tryd.prog 62 #[.func (.yield l) #[] #[], .pointer (some ⟨Bn, 0, none⟩)] W fun e W' => (∃ v, e = .returned v) ∧
      ((∃ ys, ys = places x0 ∧ J ys W') ∨ (∃ pre, pre <+: places x0 ∧ Jx pre W')) := by
  refine callsIn_of_wp Tryd.func62 rfl trivial ?_ rfl
  simp only [Tryd.ntmps62, List.size_toArray, List.length_cons, List.length_nil, Nat.reduceAdd, Nat.reduceSub, Array.replicate_succ, Array.replicate_zero, List.push_toArray, List.append_toArray, List.nil_append, List.cons_append]
  gi_wp2
  gi_loopw [3] (fun p wr => ∃ (pre : List Nat) (q : Nat), p = .int .u64 q ∧ q < 18446744073709551616 ∧ places x0 = pre ++ places q ∧ Tab wr ∧ J pre wr ∧ B0 ≤ wr.heap.size)
    (fun p _ => (intOf p).toNat)
  case atStart =>
    exact ⟨[], x0, rfl, hx, rfl, hT, h0, hB0⟩
  case round =>
    obtain ⟨pre, q, rfl, hq, hxs, hTr, hJs, hsr⟩ := hrel
    have HX := Lib.hid hxs
    clear hxs
    by_cases hq0 : q = 0
    · subst hq0
      gi_wp2
      go_end0
      exact ⟨⟨_, rfl⟩, .inl ⟨pre, by rw [HX.out, places_zero]; simp, hJs⟩⟩
    · have hne : ((q : Int) != 0) = true := by rw [bne_iff_ne]; omega
      have HC := Lib.hid (places_cons q hq0 hq)
      have HB := low_bit q hq0 hq
      obtain ⟨-, -, -, hlt, hdn⟩ := HB
      obtain ⟨fn, tmps, assign, body, hy, hR⟩ := hY pre (Lib.ctz 64 q) wr hJs (by rw [HX.out, HC.out]; exact ⟨places (q &&& (q - 1)), by simp⟩) hsr (by rw [HX.out, HC.out]; simp)
      gi_wp2_with (refine ⟨trivial, ?_⟩; gi_at_call 63; refine (callsIn_wide.2 (tz_any q _ hq hq0 hTr)).mono ?_; rintro e w' ⟨rfl, rfl⟩)
      refine hR.mono ?_
      rintro e W3 (⟨rfl, hJ3, ho3, -⟩ | ⟨rfl, hJx3⟩)
      · have hk3 : Below n₀ wr W3 := ho3.below (Nat.le_trans hn₀ hsr) (fun k h => h)
        have hs3 := Nat.le_trans hsr ho3.size
        have hand : bits BinOp.and IntKind.u64 (q : Int) ((q : Int) - 1) = ((q &&& (q - 1) : Nat) : Int) := by
          rw [show (q : Int) - 1 = ((q - 1 : Nat) : Int) from by omega, bits_and_u64_nat _ _ hq (by omega)]
        gi_wp2
        go_roundw
        case rel => exact ⟨pre ++ [Lib.ctz 64 q], q &&& (q - 1), rfl, by omega, by rw [HX.out, HC.out]; simp, hTr.below h₀ hk3, hJ3, hs3⟩
        case measure => simp [intOf]; omega
      · gi_wp2
        refine bodyPost_ret (results_none rfl _ _ _) rfl ?_
        exact ⟨⟨_, rfl⟩, .inr ⟨pre ++ [Lib.ctz 64 q], ⟨places (q &&& (q - 1)), by rw [HX.out, HC.out]; simp⟩, hJx3⟩⟩


theorem bits_seq (n : Nat) (hn : 1 ≤ n) (Bn n₀ : Nat) (x0 : Nat) (hx : x0 < 18446744073709551616) (h₀ : 0 < n₀) (w : World) (hn₀ : n₀ ≤ w.heap.size) (hT : Tab w) (hc : w.cell? ⟨Bn, 0, none⟩ = some (.int .u64 x0)) :
    SeqT SpStay Fence.wide n Tryd.prog 62 #[.pointer (some ⟨Bn, 0, none⟩)] (fun x : Nat => #[Value.int .i64 x]) (fun pre x _ => pre ++ [x] <+: places x0) (fun _ _ k => n₀ ≤ k) (fun ys => ys = places x0) (fun pre => pre <+: places x0) (places x0).length w := by
  intro l J Jx W hW _ _ hY h0
  refine (bits1_t n hn l Bn n₀ W.heap.size x0 hx h₀ (J 0) (Jx 0) (fun pre x W1 h1 h2 h3 h4 => hY 0 pre x W1 h1 h2 h3 h4) W (Nat.le_trans hn₀ hW.size) (Nat.le_refl _) (hT.below h₀ (hW.mono hn₀)) ((hW.cell (p := ⟨Bn, 0, none⟩) (World.block_lt_of_cell? w _ hc)).trans hc) (h0 0)).mono ?_
  rintro e W' ⟨hv, h⟩
  refine ⟨hv, ?_⟩
  rcases h with ⟨ys, h1, h2⟩ | ⟨pre, h1, h2⟩
  · exact .inl ⟨0, ys, h1, h2⟩
  · exact .inr ⟨0, pre, h1, h2⟩
theorem above_k (b : Int) (k : Nat) (h : (k : Int) = min (max b 0) 64) (w : World) :
    Calls Tryd.prog 64 #[.int .i64 b] w fun e w' => e = .returned (.int .i64 (64 - k)) ∧ w = w' := by
  have H : Hid (_ = _) := h
  clear h
  go_enter Tryd.func64, Tryd.ntmps64
  go_wp2
  all_goals
    go_ret
    exact ⟨ret_int (by have := H.out; omega), rfl⟩

theorem low_k (n : Nat) (b : Int) (k : Nat) (h : (k : Int) = min (max b 0) 64) (w : World) :
    Calls Tryd.prog 37 #[.int .u64 n, .int .i64 b] w fun e w' => e = .returned (.int .u64 ((n % 2 ^ k : Nat) : Int)) ∧ w = w' := by
  have hk : k ≤ 64 := by omega
  have H : Hid (_ = _) := h
  clear h
  go_enter Tryd.func37, Tryd.ntmps37
  go_wp2_with (go_at_call 64; refine (above_k _ k H.out _).mono ?_; rintro e w' ⟨rfl, rfl⟩)
  go_ret
  exact ⟨ret_int (low_key n k hk), rfl⟩

end Go.Proofs.YtmdhbbibghpijaaDoor
