/- area.pairs: the sets of two areas, label by label. -/
import Derived.Test.YtmdhbbibghpijaaDoorAreaBase
import Derived.Test.YtmdhbbibghpijaaDoorRng
import Derived.Shelf.Abstract
import Derived.Shelf.RegionOpen
import Derived.OwnWalkIn
import Derived.TacticsInMore
import Derived.LoopNIn
import Derived.LoopIn
import Derived.BigRegionIn
import Derived.Stop.RegionWithIn
namespace Go.Proofs.YtmdhbbibghpijaaDoor
open Go.RowKit Go.Shelf
attribute [local go_sem] Oper.semAt_some

/-- A slice's three numbers. -/
abbrev SV := Option Addr × Nat × Nat
def SV.v (s : SV) : Value := .slice s.1 s.2.1 s.2.2
/-- A slice of spans of just the keys of h, at most N. -/
def BgS (w : World) (s : SV) (N : Nat) (h : Int → Bool) : Prop := Bg w s.1 s.2.1 s.2.2 h ∧ s.2.1 ≤ N
theorem BgS.keep {w w' : World} {s : SV} {N : Nat} {h : Int → Bool} (g : BgS w s N h) (hk : Keep w w') : BgS w' s N h := ⟨g.1.keep hk, g.2⟩
def encP (x : SV × SV) : Array Value := #[.slice x.1.1 x.1.2.1 x.1.2.2, .slice x.2.1 x.2.2.1 x.2.2.2]
/-- What pairs says of each two. -/
def AdmP (w0 : World) (N M : Nat) (f g : Nat → Int → Bool) (pre : List (SV × SV)) (x : SV × SV) (_W : World) : Prop := BgS w0 x.1 N (f pre.length) ∧ BgS w0 x.2 M (g pre.length)
/-- What a round may turn: nothing that lay, nor the iterator's two boxes. -/
def TP (n₀ p1 p2 : Nat) (_B _c k : Nat) : Prop := n₀ ≤ k ∧ k ≠ p1 ∧ k ≠ p2

theorem pairs_at (A : Option Addr) (n c : Nat) (B : Option Addr) (m d : Nat) (w : World) :
    Calls Tryd.prog 58 #[.slice A n c, .slice B m d] w fun e w' => e = .returned (.func (.func 73) #[] #[.pointer (some ⟨w.heap.size, 0, none⟩), .pointer (some ⟨w.heap.size + 1, 0, none⟩)]) ∧ w' = (w.alloc (.cells #[.slice A n c] 22)).alloc (.cells #[.slice B m d] 22) := by
  go_enter Tryd.func58, Tryd.ntmps58
  go_wp2
  exact bodyPost_ret (v := .func (.func 73) #[] #[.pointer (some ⟨w.heap.size, 0, none⟩), .pointer (some ⟨w.heap.size + 1, 0, none⟩)]) (by simp [results, Tryd.f58, go_sem]) rfl ⟨rfl, rfl⟩
theorem two_ways {e : Ending} {X Y : Prop} (h : (e = .returned (.bool true) ∧ X) ∨ (e = .returned (.bool false) ∧ Y)) : ∃ b : Bool, e = .returned (.bool b) ∧ (b = true → X) ∧ (b = false → Y) := by
  rcases h with ⟨h1, h2⟩ | ⟨h1, h2⟩
  · exact ⟨true, h1, (fun _ => h2), (fun h => by cases h)⟩
  · exact ⟨false, h1, (fun h => by cases h), (fun _ => h2)⟩
set_option maxRecDepth 100000 in
set_option maxHeartbeats 2000000 in
theorem pairs1_in (n : Nat) (hn : 1 ≤ n) (l : Nat) (J Jx : Nat → List (SV × SV) → World → Prop) {w0 W : World} {p1 p2 : Nat} {A B : Option Addr} {na ca nb cb N M : Nat} {f g : Nat → Int → Bool} (K : Nat) (hK : K = max na nb)
    (hJ : ∀ s X Y, J 0 s X → Keep X Y → Only (fun _ => False) X Y → J 0 s Y)
    (hY : ∀ pre x W1, J 0 pre W1 → AdmP w0 N M f g pre x W1 → W.heap.size ≤ W1.heap.size → pre.length < K → YieldAt Fence.wide (n - 1) Tryd.prog l (encP x) W1 fun e W' =>
      (e = .returned (.bool true) ∧ J 0 (pre ++ [x]) W' ∧ Only (TP w0.heap.size p1 p2 W.heap.size 0) W1 W') ∨ (e = .returned (.bool false) ∧ Jx 0 (pre ++ [x]) W'))
    (hA : Area w0 A na N f) (hB : Area w0 B nb M g) (hk : Keep w0 W) (hl : K ≤ 1000000)
    (c1 : W.cell? ⟨p1, 0, none⟩ = some (.slice A na ca)) (c2 : W.cell? ⟨p2, 0, none⟩ = some (.slice B nb cb))
    (h0 : J 0 [] W) :
    CallsIn Fence.wide n Tryd.prog 73 #[.func (.yield l) #[] #[], .pointer (some ⟨p1, 0, none⟩), .pointer (some ⟨p2, 0, none⟩)] W fun e W' => (∃ v, e = .returned v) ∧
      ((∃ c ys, ys.length = K ∧ J c ys W') ∨ (∃ c pre, pre.length ≤ K ∧ Jx c pre W')) := by
  have hp1 : p1 < W.heap.size := World.block_lt_of_cell? W _ c1
  have hp2 : p2 < W.heap.size := World.block_lt_of_cell? W _ c2
  have HA := Lib.hid hA
  have HB := Lib.hid hB
  have HY := Lib.hid hY
  have hab : (na : Int) ≤ K ∧ (nb : Int) ≤ K := by omega
  have hkl : (K : Int) ≤ 1000000 := by omega
  have HKK := Lib.hid hk
  clear hA hB hY hk
  refine callsIn_of_wp Tryd.func73 rfl trivial ?_ rfl
  simp only [Tryd.ntmps73, List.size_toArray, List.length_cons, List.length_nil, Nat.reduceAdd, Nat.reduceSub, Array.replicate_succ, Array.replicate_zero, List.push_toArray, List.append_toArray, List.nil_append, List.cons_append]
  have hLo : ∀ (k : Nat), K ≤ k → ¬ (k : Int) < K := fun k h => by omega
  have HC1 := Lib.hid (fun X (hX : Only (TP w0.heap.size p1 p2 W.heap.size 0) W X) => (World.cell?_of_block (a := ⟨p1, 0, none⟩) (hX.block p1 hp1 (fun h => h.2.1 rfl))).trans c1)
  have HC2 := Lib.hid (fun X (hX : Only (TP w0.heap.size p1 p2 W.heap.size 0) W X) => (World.cell?_of_block (a := ⟨p2, 0, none⟩) (hX.block p2 hp2 (fun h => h.2.2 rfl))).trans c2)
  have HKT := Lib.hid (fun X (hX : Only (TP w0.heap.size p1 p2 W.heap.size 0) W X) => Only.keep HKK.out hX (fun k h => h.1))
  clear hLo
  have hmx : max (na : Int) (nb : Int) = (K : Int) := by omega
  clear hab hK hkl
  gi_wp2_with fail
  all_goals
    first | rw [show (nb : Int) = (K : Int) by omega] | rw [show (na : Int) = (K : Int) by omega] | skip
    clear c1 c2
    gi_loopw [10] (fun i wr => ∃ (q : Nat) (pre : List (SV × SV)), i = .int .i64 q ∧ pre.length = q ∧ q ≤ K ∧ Hid (J 0 pre wr) ∧ Hid (Only (TP w0.heap.size p1 p2 W.heap.size 0) W wr)) (fun i _ => K - (intOf i).toNat)
    case atStart => exact ⟨0, [], rfl, rfl, Nat.zero_le _, Lib.hid h0, Lib.hid (Only.refl _ _)⟩
    case round =>
      obtain ⟨q, pre, rfl, hq, hqK, HJ, HO⟩ := hrel
      have HPQ := Lib.hid hq
      by_cases hlt : q < K
      · have hlt2 : (q : Int) < (K : Int) := by omega
        have c1 := HC1.out wr HO.out
        have c2 := HC2.out wr HO.out
        have hdrew : Only (fun _ => False) wr wr.drew := (Only.refl _ wr).drew
        have HO2 := Lib.hid (HO.out.trans hdrew (fun _ _ h => h.elim))
        have HJ2 := Lib.hid (hJ _ _ _ HJ.out (Keep.refl wr).drew hdrew)
        have HX := Lib.hid (at_any (c := ca) (q : Int) HA.out (HKT.out wr.drew HO2.out))
        have HX2 := Lib.hid (at_any (c := cb) (q : Int) HB.out (HKT.out wr.drew HO2.out))
        have HYq := Lib.hid (fun x h1 => HY.out pre x wr.drew HJ2.out h1 HO2.out.size (by rw [hq]; exact hlt))
        have hfz : fz f (q : Int) = f pre.length ∧ fz g (q : Int) = g pre.length := by rw [hq, fz_nat, fz_nat]; exact ⟨rfl, rfl⟩
        rw [hfz.1] at HX
        rw [hfz.2] at HX2
        clear h0 hq hfz hdrew
        gi_wp2_with fail
        gi_region_with (first
          | (refine ⟨trivial, ?_⟩; gi_at_call 42; (with_reducible (show CallsIn _ _ _ _ #[.slice A na ca, _] _ _)); refine (callsIn_wide.2 HX.out).mono ?_; rintro e w1 ⟨a1, l1, d1, rfl, hb1, hl1, rfl⟩)
          | (refine ⟨trivial, ?_⟩; gi_at_call 42; (with_reducible (show CallsIn _ _ _ _ #[.slice B nb cb, _] _ _)); refine (callsIn_wide.2 HX2.out).mono ?_; rintro e w1 ⟨a2, l2, d2, rfl, hb2, hl2, rfl⟩; obtain ⟨fn, tmps, assign, body, hyq, hR⟩ := HYq.out ((a1, l1, d1), (a2, l2, d2)) ⟨⟨hb1, hl1⟩, hb2, hl2⟩; dsimp only [encP] at hyq)
          | (refine hR.mono ?_; intro e W3 h3; obtain ⟨bb, rfl, h4, h5⟩ := two_ways h3))
        all_goals
          clear hyq hR h3
          cases bb
          · have HX3 := Lib.hid (h5 rfl)
            clear h4 h5
            gi_wp2
            refine bodyPost_ret (results_none rfl _ _ _) rfl ?_
            exact ⟨⟨_, rfl⟩, .inr ⟨0, _, (by rw [List.length_append, HPQ.out]; simp; omega), HX3.out⟩⟩
          · obtain ⟨h6, h7⟩ := h4 rfl
            have HJ3 := Lib.hid h6
            have HO3 := Lib.hid (HO2.out.trans h7 (fun _ _ h => h))
            clear h4 h5 h6 h7
            gi_wp2
            go_roundw
            case rel => exact ⟨q + 1, _, by go_num, (by rw [List.length_append, HPQ.out]; rfl), hlt, HJ3, HO3⟩
            case measure => simp [intOf]; omega
      · obtain rfl : q = K := by omega
        clear hlt h0
        gi_wp2
        refine bodyPost_end (results_none rfl _ _ _) rfl ?_
        exact ⟨⟨_, rfl⟩, .inl ⟨0, pre, HPQ.out, HJ.out⟩⟩
end Go.Proofs.YtmdhbbibghpijaaDoor
