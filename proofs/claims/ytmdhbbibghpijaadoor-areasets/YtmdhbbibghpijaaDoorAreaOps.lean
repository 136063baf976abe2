/- area.Union, Meet, Minus, Within, Same, Has. -/
import Derived.Test.YtmdhbbibghpijaaDoorAreaBy
namespace Go.Proofs.YtmdhbbibghpijaaDoor
open Go.RowKit

theorem gives_joins {w w' : World} {P : Int → Prop} {N L : Nat} {e : Ending} {h : Int → Bool} (g : Gives w P N e w') (hP : ∀ k, P k ↔ h k = true) (hN : N ≤ L) : Joins w L h e w' := by
  obtain ⟨hk, A, c, r, rfl, h2, h3, h4, h5, h6⟩ := g
  refine ⟨(A, r.length, c), rfl, hk, ⟨r, ⟨h2, h3, h4.1, h6.ok⟩, h6.rt, fun k => ?_⟩, Nat.le_trans h5 hN, h4⟩
  have h1 : hasB r k = true ↔ h k = true := by rw [hasB_iff, h6.mem k]; exact hP k
  cases h2 : hasB r k <;> cases h3 : h k <;> simp_all
section
variable {w : World} {A B : Option Addr} {na ca nb cb N M : Nat} {f g : Nat → Int → Bool}
/-- An area comes out. -/
def OutA (w : World) (n N : Nat) (f : Nat → Int → Bool) (e : Ending) (w' : World) : Prop := ∃ A c, e = .returned (.slice A n c) ∧ Keep w w' ∧ AreaS w.heap.size w' A n N f ∧ n ≤ c
theorem union_a (hA : Area w A na N f) (hB : Area w B nb M g) (hN : N ≤ 20000) (hM : M ≤ 20000) (hl : max na nb + 1 ≤ 1000000) :
    Calls Tryd.prog 12 #[.slice A na ca, .slice B nb cb] w (OutA w (max na nb) (N + M) (fun i k => f i k || g i k)) := by
  have HC := Lib.hid (by_union (ca := ca) (cb := cb) (L := N + M) (fun x y => x || y) rfl hA hB hl (fun X x y i h1 h2 => by
    obtain ⟨⟨zs, g1, g3⟩, g4⟩ := h1
    obtain ⟨⟨ys, k1, k3⟩, k4⟩ := h2
    exact (union_any x.1 x.2.1 x.2.2 zs y.1 y.2.1 y.2.2 ys X g1 k1 (by omega) (by omega)).mono fun _ _ q => gives_joins q (fun k => by rw [bg_mem g3, bg_mem k3]; simp) (by omega)))
  clear hA hB hN hM hl
  go_enter Tryd.func12, Tryd.ntmps12
  go_wp2_with fail
  refine HC.out.mono ?_
  rintro e w1 ⟨A', c', rfl, hk, hs⟩
  go_wp2
  go_ret
  exact ⟨A', c', rfl, hk, hs⟩
theorem meet_a (hA : Area w A na N f) (hB : Area w B nb M g) (hN : N ≤ 20000) (hM : M ≤ 20000) (hl : max na nb + 1 ≤ 1000000) :
    Calls Tryd.prog 13 #[.slice A na ca, .slice B nb cb] w (OutA w (max na nb) (N + M) (fun i k => f i k && g i k)) := by
  have HC := Lib.hid (by_meet (ca := ca) (cb := cb) (L := N + M) (fun x y => x && y) rfl hA hB hl (fun X x y i h1 h2 => by
    obtain ⟨⟨zs, g1, g3⟩, g4⟩ := h1
    obtain ⟨⟨ys, k1, k3⟩, k4⟩ := h2
    exact (meet_any x.1 x.2.1 x.2.2 zs y.1 y.2.1 y.2.2 ys X g1 k1 (by omega) (by omega)).mono fun _ _ q => gives_joins q (fun k => by rw [bg_mem g3, bg_mem k3]; simp) (by omega)))
  clear hA hB hN hM hl
  go_enter Tryd.func13, Tryd.ntmps13
  go_wp2_with fail
  refine HC.out.mono ?_
  rintro e w1 ⟨A', c', rfl, hk, hs⟩
  go_wp2
  go_ret
  exact ⟨A', c', rfl, hk, hs⟩
theorem minus_a (hA : Area w A na N f) (hB : Area w B nb M g) (hN : N ≤ 20000) (hM : M ≤ 20000) (hl : max na nb + 1 ≤ 1000000) :
    Calls Tryd.prog 14 #[.slice A na ca, .slice B nb cb] w (OutA w (max na nb) (N + M + 1) (fun i k => f i k && !g i k)) := by
  have HC := Lib.hid (by_minus (ca := ca) (cb := cb) (L := N + M + 1) (fun x y => x && !y) rfl hA hB hl (fun X x y i h1 h2 => by
    obtain ⟨⟨zs, g1, g3⟩, g4⟩ := h1
    obtain ⟨⟨ys, k1, k3⟩, k4⟩ := h2
    exact (minus_any x.1 x.2.1 x.2.2 zs y.1 y.2.1 y.2.2 ys X g1 k1 (by omega) (by omega)).mono fun _ _ q => gives_joins q (fun k => by rw [bg_mem g3, bg_mem k3]; simp) (by omega)))
  clear hA hB hN hM hl
  go_enter Tryd.func14, Tryd.ntmps14
  go_wp2_with fail
  refine HC.out.mono ?_
  rintro e w1 ⟨A', c', rfl, hk, hs⟩
  go_wp2
  go_ret
  exact ⟨A', c', rfl, hk, hs⟩
/-- Has each cell of the one the other. -/
def sub (f g : Nat → Int → Bool) : Prop := ∀ i k, f i k = true → g i k = true
theorem all_up {R : (Int → Bool) → (Int → Bool) → Prop} (h0 : R (fun _ => false) (fun _ => false)) (hA : Area w A na N f) (hB : Area w B nb M g) : (∀ i, i < max na nb → R (f i) (g i)) ↔ ∀ i, R (f i) (g i) := by
  refine ⟨fun h i => ?_, fun h i _ => h i⟩
  by_cases hi : i < max na nb
  · exact h i hi
  · rw [show f i = fun _ => false from funext fun k => hA.out i (by omega) k, show g i = fun _ => false from funext fun k => hB.out i (by omega) k]
    exact h0
theorem within_a (v : Bool) (hA : Area w A na N f) (hB : Area w B nb M g) (hN : N ≤ 20000) (hM : M ≤ 20000) (hl : max na nb ≤ 1000000) (hv : v = true ↔ sub f g) :
    Calls Tryd.prog 22 #[.slice A na ca, .slice B nb cb] w fun e w' => e = .returned (.bool v) ∧ Keep w w' := by
  have HC := Lib.hid (every_within (ca := ca) (cb := cb) (fun p q => ∀ k, p k = true → q k = true) v hA hB hl (fun X x y i b h1 h2 hb => within_o b h1.1 h2.1 (by have := h1.2; omega) (by have := h2.2; omega) hb)
    (hv.trans (all_up (R := fun p q => ∀ k, p k = true → q k = true) (fun _ h => h) hA hB).symm))
  clear hA hB hN hM hl hv
  go_enter Tryd.func22, Tryd.ntmps22
  go_wp2_with fail
  refine HC.out.mono ?_
  rintro e w1 ⟨rfl, hk⟩
  go_wp2
  go_ret
  exact ⟨rfl, hk⟩
theorem same_a (v : Bool) (hA : Area w A na N f) (hB : Area w B nb M g) (hN : N ≤ 20000) (hM : M ≤ 20000) (hl : max na nb ≤ 1000000) (hv : v = true ↔ ∀ i k, f i k = g i k) :
    Calls Tryd.prog 24 #[.slice A na ca, .slice B nb cb] w fun e w' => e = .returned (.bool v) ∧ Keep w w' := by
  have HC := Lib.hid (every_same (ca := ca) (cb := cb) (fun p q => ∀ k, p k = q k) v hA hB hl (fun X x y i b h1 h2 hb => same_o b h1.1 h2.1 (by have := h1.2; omega) (by have := h2.2; omega) hb)
    (hv.trans (all_up (R := fun p q => ∀ k, p k = q k) (fun _ => rfl) hA hB).symm))
  clear hA hB hN hM hl hv
  go_enter Tryd.func24, Tryd.ntmps24
  go_wp2_with fail
  refine HC.out.mono ?_
  rintro e w1 ⟨rfl, hk⟩
  go_wp2
  go_ret
  exact ⟨rfl, hk⟩
set_option maxRecDepth 100000 in
set_option maxHeartbeats 2000000 in
theorem has_a (lb k : Int) (hA : Area w A na N f) (hN : N ≤ 20000) :
    Calls Tryd.prog 20 #[.slice A na ca, .agg #[.int .i64 lb, .int .u32 k]] w fun e w' => e = .returned (.bool (fz f lb k)) ∧ Keep w w' := by
  have hb := World.alloc_heap_new w (.cells #[.int .i64 lb, .int .u32 k] 25)
  have hk0 := (Keep.refl w).alloc (.cells #[.int .i64 lb, .int .u32 k] 25)
  have HA := Lib.hid hA
  clear hA
  go_enter Tryd.func20, Tryd.ntmps20
  go_wp2_with fail
  generalize w.alloc (.cells #[.int .i64 lb, .int .u32 k] 25) = W at *
  have hlt : w.heap.size < W.heap.size := (Array.getElem?_eq_some_iff.1 hb).1
  have HS := Lib.hid (show ∀ X, Keep W X → Keep W X ∧ X.cell? ⟨w.heap.size, 0, none⟩ = some (.int .i64 lb) ∧ X.cell? ⟨w.heap.size, 1, none⟩ = some (.int .u32 k) from fun X hX => by
    have := (hX.block _ hlt).trans hb
    exact ⟨hX, by simp [World.cell?, this], by simp [World.cell?, this]⟩)
  have HKW := Lib.hid hk0
  have hKc := (Keep.refl W).drew
  clear hb hlt hk0
  refine seq_region (S := fun w' => Keep W w' ∧ w'.cell? ⟨w.heap.size, 0, none⟩ = some (.int .i64 lb) ∧ w'.cell? ⟨w.heap.size, 1, none⟩ = some (.int .u32 k)) [⟨0, 1, 32⟩, ⟨0, 8, 64⟩, ⟨2, 64, 128⟩, ⟨5, 160, 256⟩, ⟨0, 8, 512⟩, ⟨16, 512, 1024⟩, ⟨40, 1280, 2048⟩, ⟨127, 2048, 16⟩] [(0, false), (1, false), (2, false), (4, false), (5, false), (3, true), (6, true), (7, false)] rfl (by kernel_rfl) (by kernel_rfl) (fun _ _ d _ _ h => by cases d <;> exact h) (HS.out _ hKc) ?_
  simp only [rowsOf, rowAt, gslot, List.map_cons, List.map_nil, List.getElem?_toArray, List.getElem?_cons_zero, List.getElem?_cons_succ]
  repeat (first
    | (refine seq_take (v := ?_) (a' := ?_) (by rfl) ?_ ?_ ?_
       rotate_left 2
       · (intro w hSw; obtain ⟨-, hSw⟩ := hSw; go_split_ands; go_simp; with_reducible rfl)
       · (simp only [Act.put, List.setIfInBounds_toArray, List.set_cons_zero, List.set_cons_succ]; with_reducible rfl)))
  refine sq_callx (R := fun v w' => ∃ a l c, v = .slice a l c ∧ Bg w a l c (fz f lb) ∧ l ≤ N ∧ Keep W w') (f := 42) (args := ?_) (by rfl) (by rfl) (by rfl) Tryd.call42 ?_ ?_ ?_
  rotate_left 1
  · (go_simp; with_reducible rfl)
  · refine (at_any lb HA.out (HKW.out.trans hKc)).mono ?_
    rintro e w' ⟨a, l, c, rfl, hb, hl, rfl⟩
    exact ⟨_, rfl, HS.out _ hKc, a, l, c, rfl, hb, hl, hKc⟩
  rintro v w2 - ⟨a, l, c, rfl, hb, hl, hK2⟩
  simp only [Act.put, List.setIfInBounds_toArray, List.set_cons_zero, List.set_cons_succ]
  refine sq_callx (R := fun v w' => v = .bool (fz f lb k) ∧ Keep W w') (f := 28) (args := ?_) (by rfl) (by rfl) (by rfl) Tryd.call28 ?_ ?_ ?_
  rotate_left 1
  · (go_simp; with_reducible rfl)
  · refine (has_o k (hb.keep (HKW.out.trans hK2)) (by omega)).mono ?_
    rintro e w' ⟨rfl, hk⟩
    exact ⟨_, rfl, HS.out _ (hK2.trans hk), rfl, hK2.trans hk⟩
  rintro v w3 - ⟨rfl, hK3⟩
  simp only [Act.put, List.setIfInBounds_toArray, List.set_cons_zero, List.set_cons_succ]
  repeat (first
    | (refine seq_take (v := ?_) (a' := ?_) (by rfl) ?_ ?_ ?_
       rotate_left 2
       · (intro w hSw; obtain ⟨-, hSw⟩ := hSw; go_split_ands; go_simp; with_reducible rfl)
       · (simp only [Act.put, List.setIfInBounds_toArray, List.set_cons_zero, List.set_cons_succ]; with_reducible rfl)))
  refine seq_nil ?_
  have HF := Lib.hid (HKW.out.trans hK3)
  clear hb hl hK2 hK3 hKc
  go_wp2
  go_ret
  exact ⟨rfl, HF.out⟩
end
end Go.Proofs.YtmdhbbibghpijaaDoor
