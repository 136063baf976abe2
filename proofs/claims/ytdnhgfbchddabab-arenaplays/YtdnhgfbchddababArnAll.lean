/- arena.All: all nodes, by their numbers, one by one. -/
import Derived.Test.YtdnhgfbchddababArnFn
import Derived.RangeFuncNested
import Derived.RangeFuncBound
import Derived.RangeFuncCalls
import Derived.RangeFuncLeaves
import Derived.RangeFuncBox
import Derived.Shelf.Abstract
import Derived.Shelf.RegionOpen
import Derived.OwnWalkIn
import Derived.TacticsInMore
import Derived.LoopNIn
import Derived.LoopIn
namespace Go.Proofs.Ytdnhgfbchddabab
open Go.RowKit Go.Shelf
attribute [local go_sem] Oper.semAt_some

/-- What a round keeps: what lay below n₀, and the box Bn. -/
def KpB (n₀ Bn : Nat) (W W' : World) : Prop := Below n₀ W W' ∧ W'.heap[Bn]? = W.heap[Bn]?
theorem KpB.trans {n₀ Bn : Nat} {X Y Z : World} (h : KpB n₀ Bn X Y) (h' : KpB n₀ Bn Y Z) : KpB n₀ Bn X Z := ⟨h.1.trans h'.1, h'.2.trans h.2⟩
theorem KpB.put {n₀ Bn : Nat} {w : World} (hn : n₀ ≤ w.heap.size) (hB : Bn < w.heap.size) (W : World) (l : Nat) (o o' : Obj) (hl : w.heap.size ≤ l) (h : W.heap[l]? = some o) (h1 : o.isCells = false) (h2 : o.isWalk = false) : KpB n₀ Bn W (W.putObj l o') :=
  ⟨belowK_b hn W l o o' hl h h1 h2, World.putObj_heap_other (by omega)⟩
theorem Only.of_below {n₀ : Nat} {w w' : World} (h : Below n₀ w w') : Only (fun k => n₀ ≤ k) w w' := ⟨h.os, h.tape, h.output, h.size, fun k _ hs => h.block k (by omega)⟩
theorem Ar.below {n₀ : Nat} {w w' : World} {b lim : Nat} {A : Option Addr} {c : Nat} {xs : List Nd} (h : Ar w b lim A c xs) (hb : b < n₀) (hg : ∀ g, (Value.slice A xs.length c).ownBlock = some g → g < n₀) (hB : Below n₀ w w') : Ar w' b lim A c xs :=
  h.only (Only.of_below hB) (by omega) (fun g e => by have := hg g e; omega)

set_option maxRecDepth 100000 in
set_option maxHeartbeats 1000000 in
theorem all1_in (n : Nat) (hn : 1 ≤ n) (l Bn n₀ b lim : Nat) (A : Option Addr) (c : Nat) (xs : List Nd) (J Jx : List (Int × Nd) → World → Prop)
    (hY : ∀ pre (x : Int × Nd) W, J pre W → pre.length < xs.length → YieldAt Fence.wide (n - 1) Try.prog l #[.int .i32 x.1, .agg #[.int .i32 x.2.l, .int .i32 x.2.r, .int .i64 x.2.c, .int .i64 x.2.s, .int .i64 x.2.mn, .int .i64 x.2.mx, .bool x.2.k]] W fun e W' =>
      (e = .returned (.bool true) ∧ J (pre ++ [x]) W' ∧ KpB n₀ Bn W W') ∨ (e = .returned (.bool false) ∧ Jx (pre ++ [x]) W'))
    (hb : b < n₀) (hg : ∀ g, (Value.slice A xs.length c).ownBlock = some g → g < n₀)
    (W : World) (hA : Ar W b lim A c xs) (hBn : W.cell? ⟨Bn, 0, none⟩ = some (.pointer (some ⟨b, 0, none⟩))) (h0 : J [] W) :
    CallsIn Fence.wide n Try.prog 35 #[.func (.yield l) #[] #[], .pointer (some ⟨Bn, 0, none⟩)] W fun e W' => (∃ v, e = .returned v) ∧
      ((∃ ys, ys = nums 0 xs ∧ J ys W') ∨ (∃ pre, pre <+: nums 0 xs ∧ Jx pre W')) := by
  have hf := hA.fits
  have ht := hA.top
  refine callsIn_of_wp Try.func35 rfl trivial ?_ rfl
  simp only [Try.ntmps35, List.size_toArray, List.length_cons, List.length_nil, Nat.reduceAdd, Nat.reduceSub, Array.replicate_succ, Array.replicate_zero, List.push_toArray, List.append_toArray, List.nil_append, List.cons_append]
  gi_wp2
  gi_loopw [3] (fun p wr => ∃ q : Nat, p = .int .i32 ((q : Int) + 1) ∧ q ≤ xs.length ∧ Ar wr b lim A c xs ∧ wr.cell? ⟨Bn, 0, none⟩ = some (.pointer (some ⟨b, 0, none⟩)) ∧ J ((nums 0 xs).take q) wr)
    (fun p _ => xs.length + 1 - (intOf p).toNat)
  case atStart =>
    exact ⟨0, rfl, by omega, hA, hBn, h0⟩
  case round =>
    obtain ⟨q, rfl, hq, hAr, hBr, hJs⟩ := hrel
    have hrow := hAr.row
    have HAR := Lib.hid hAr
    by_cases hql : q < xs.length
    · have hz : xs[q]? = some xs[q] := List.getElem?_eq_getElem hql
      have hh := has_is ((q : Int) + 1) true hAr (decide_eq_true (by omega)) (by omega)
      obtain ⟨g, rfl, _, _, _, a0, a1, a2, a3, a4, a5, a6⟩ := hAr.at_ q xs[q] hz
      generalize xs[q] = z at *
      have HT := Lib.hid (nums_take xs q z hz)
      have hpl : ((nums 0 xs).take q).length < xs.length := by rw [List.length_take, nums_length]; omega
      obtain ⟨fn, tmps, assign, body, hy, hR⟩ := hY _ ((q : Int) + 1, z) wr hJs hpl
      have hji : (q : Int) < (xs.length : Int) := by omega
      have hw : IntKind.i32.wrap ((q : Int) + 1 - 1) = (q : Int) := by rw [IntKind.wrap_i32]; omega
      clear hAr hz
      gi_wp2_with (refine ⟨trivial, ?_⟩; gi_at_call 27; refine (callsIn_wide.2 hh).mono ?_; rintro e w' ⟨rfl, rfl⟩)
      refine hR.mono ?_
      rintro e W3 (⟨rfl, hJ3, hk3⟩ | ⟨rfl, hJx3⟩)
      · have hw2 : IntKind.i32.wrap ((q : Int) + 1 + 1) = ((q + 1 : Nat) : Int) + 1 := by rw [IntKind.wrap_i32]; omega
        gi_wp2
        go_roundw
        case rel => exact ⟨q + 1, by go_num, hql, HAR.out.below hb hg hk3.1, (World.cell?_of_block (a := ⟨Bn, 0, none⟩) hk3.2).trans hBr, by rw [HT.out]; exact hJ3⟩
        case measure => simp [intOf]; omega
      · gi_wp2
        refine bodyPost_ret (results_none rfl _ _ _) rfl ?_
        refine ⟨⟨_, rfl⟩, .inr ⟨_, ?_, hJx3⟩⟩
        rw [← HT.out]
        exact List.take_prefix _ _
    · have hqe : q = xs.length := by omega
      have hh := has_is ((q : Int) + 1) false hAr (decide_eq_false (by omega)) (by omega)
      have htk : (nums 0 xs).take q = nums 0 xs := List.take_of_length_le (by rw [nums_length]; omega)
      rw [htk] at hJs
      clear hAr htk hqe hql
      gi_wp2_with (refine ⟨trivial, ?_⟩; gi_at_call 27; refine (callsIn_wide.2 hh).mono ?_; rintro e w' ⟨rfl, rfl⟩)
      go_end0
      exact ⟨⟨_, rfl⟩, .inl ⟨_, rfl, hJs⟩⟩

set_option maxHeartbeats 1000000 in
/-- arena.All: its arena's place is boxed. -/
theorem all_in (n : Nat) (p : Value) (w : World) (hp : ∃ b, p = .pointer (some ⟨b, 0, none⟩)) :
    CallsIn Fence.wide n Try.prog 28 #[p] w fun e w' => e = .returned (.func (.func 35) #[] #[.pointer (some ⟨w.heap.size, 0, none⟩)]) ∧ w' = w.alloc (.cells #[p] 24) := by
  obtain ⟨b, rfl⟩ := hp
  refine callsIn_of_wp Try.func28 rfl trivial ?_ rfl
  simp only [Try.ntmps28, List.size_toArray, List.length_cons, List.length_nil, Nat.reduceAdd, Nat.reduceSub, Array.replicate_succ, Array.replicate_zero, List.push_toArray, List.append_toArray, List.nil_append, List.cons_append]
  gi_wp2
  go_ret
  exact ⟨rfl, rfl⟩

/-- What arena.All answers goes through all nodes; or through some of them, where a round has said no more. -/
theorem all_stops (n : Nat) (hn : 1 ≤ n) (Bn n₀ b lim : Nat) (A : Option Addr) (c : Nat) (xs : List Nd) (w : World) (hBn : Bn < w.heap.size) (hn₀ : n₀ ≤ w.heap.size) (hb : b < n₀) (hg : ∀ g, (Value.slice A xs.length c).ownBlock = some g → g < n₀)
    (hA : Ar w b lim A c xs) (hc : w.cell? ⟨Bn, 0, none⟩ = some (.pointer (some ⟨b, 0, none⟩))) :
    SeqStopsK Fence.wide n Try.prog 35 #[.pointer (some ⟨Bn, 0, none⟩)] (fun x : Int × Nd => #[.int .i32 x.1, .agg #[.int .i32 x.2.l, .int .i32 x.2.r, .int .i64 x.2.c, .int .i64 x.2.s, .int .i64 x.2.mn, .int .i64 x.2.mx, .bool x.2.k]]) (KpB n₀ Bn) (fun ys => ys = nums 0 xs) (fun pre => pre <+: nums 0 xs) xs.length w := fun l J Jx W hW _ _ hY h0 =>
  all1_in n hn l Bn n₀ b lim A c xs J Jx hY hb hg W (hA.below hb hg (hW.mono hn₀)) ((hW.cell (p := ⟨Bn, 0, none⟩) hBn).trans hc) h0
end Go.Proofs.Ytdnhgfbchddabab
