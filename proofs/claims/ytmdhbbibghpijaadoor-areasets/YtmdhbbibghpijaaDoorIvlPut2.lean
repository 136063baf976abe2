/- The document's own put of layer 6: the walk. -/
import Derived.Test.YtmdhbbibghpijaaDoorIvlPut
namespace Go.Proofs.YtmdhbbibghpijaaDoor
open Go.RowKit

theorem keep_grown {w w1 w2 : World} {e : TypeId} {size : Nat} {v : Value} {n : Nat} {xs : List Value} (hk : Keep w w1) (ho : w1.ownsRow w.heap.size e size v n xs) (hg : w1.grownBy w2 v.ownBlock) : Keep w w2 :=
  Only.keep hk ((Only.refl (fun q => w.heap.size ≤ q) _).grown hg (fun q _ e => (ho.lt q e).1)) (fun k hk => by omega)
/-- A row of numbers in a block of its own. -/
def PutPost (w : World) (ns : List Int) (k : Int) (e : Ending) (w' : World) : Prop := ∃ A' n' c' ms, e = .returned (.slice A' n' c') ∧ Nums w' A' n' c' ms ∧ Put ns k ms ∧ Keep w w'
theorem one_i64 (w : World) (z : Int) : Lies (w.alloc (.cells #[.int .i64 z] 2)) (w.heap.size + 1) (some ⟨w.heap.size, 0, none⟩) 1 (vals .i64 [z]) := by
  refine ⟨rfl, fun _ => ⟨w.heap.size, 0, rfl, by omega, fun j hj => ?_⟩⟩
  have hb := World.alloc_heap_new w (.cells #[.int .i64 z] 2)
  obtain rfl : j = 0 := by omega
  generalize w.alloc (.cells #[.int .i64 z] 2) = V at *
  simp [World.cell?, hb, vals]
theorem lies_first {w : World} {B : Nat} {A : Option Addr} {n : Nat} {ns : List Int} (h : Lies w B A n (vals .i64 ns)) {j : Nat} (hj : j ≤ n) : Lies w B A j (vals .i64 (ns.take j)) := by
  have hl : ns.length = n := by have := h.1; rwa [vals_length] at this
  refine ⟨by rw [vals_length, List.length_take]; omega, fun h0 => ?_⟩
  obtain ⟨b, off, e, hb, hc⟩ := h.2 (by omega)
  refine ⟨b, off, e, hb, fun i hi => ?_⟩
  rw [hc i (by omega), vals_getD _ _ _ (by omega), vals_getD _ _ _ (by rw [List.length_take]; omega)]
  simp [List.getD_eq_getElem?_getD, hi]
theorem lies_zero (w : World) (A : Option Addr) {j : Nat} (ns : List Int) (hl : ns.length = j) : Lies w w.heap.size A 0 (vals .i64 (ns.drop j)) :=
  ⟨by rw [vals_length, List.length_drop]; omega, fun h => by omega⟩
theorem lies_rest {w : World} {B b off n : Nat} {ns : List Int} (h : Lies w B (some ⟨b, off, none⟩) n (vals .i64 ns)) {j : Nat} (hj : j ≤ n) : Lies w B (some ⟨b, off + j, none⟩) (n - j) (vals .i64 (ns.drop j)) := by
  have hl : ns.length = n := by have := h.1; rwa [vals_length] at this
  refine ⟨by rw [vals_length, List.length_drop]; omega, fun h0 => ?_⟩
  obtain ⟨b', off', e, hb, hc⟩ := h.2 (by omega)
  cases e
  refine ⟨b, off + j, rfl, hb, fun i hi => ?_⟩
  rw [show off + j + i = off + (j + i) by omega, hc (j + i) (by omega), vals_getD _ _ _ (by omega), vals_getD _ _ _ (by rw [List.length_drop]; omega)]
  simp [List.getD_eq_getElem?_getD, List.getElem?_drop]

theorem put_split {ns : List Int} {j : Nat} {k : Int} (h : Up ns) (h1 : ∀ z ∈ ns.take j, z < k) (h2 : ∀ z ∈ ns.drop j, k < z) : Put ns k (ns.take j ++ [k] ++ ns.drop j) := by
  have := put_new (xs := ns.take j) (ys := ns.drop j) (k := k) (by rwa [List.take_append_drop]) h1 h2
  rwa [List.take_append_drop] at this
theorem put_row {w : World} {base n c : Nat} {A : Option Addr} {xs ys : List Int} {k : Int} (h : w.ownsRow base 2 1 (.slice A n c) n (vals .i64 xs ++ vals .i64 [k] ++ vals .i64 ys)) : Nums w A n c (xs ++ [k] ++ ys) :=
  nums_row (by rwa [vals_append, vals_append])

set_option maxRecDepth 100000 in
set_option maxHeartbeats 4000000 in
theorem put_any (A : Option Addr) (n c : Nat) (ns : List Int) (k : Int) (w : World) (h : Nums w A n c ns) (hup : Up ns) (hn : n ≤ 1000000) (h0 : 0 < n) :
    Calls Tryd.prog 72 #[.slice A n c, .int .i64 k] w (PutPost w ns k) := by
  obtain ⟨i0, hi, hz0, hz1, hz2⟩ := info_parts infoI64
  have HL := Lib.hid h.len
  obtain ⟨b, off, e, hb, hc⟩ := h.lies.2 h0
  subst e
  have HC := Lib.hid hc
  have HA := Lib.hid h
  have HUP := Lib.hid hup
  have hni : (n : Int) ≤ 1000000 := by omega
  have hcap : (n : Int) ≤ (c : Int) := by have := h.cap; omega
  have hk0 := (Keep.refl w).alloc (.cells #[] 2)
  have ho0 := World.ownsRow_made (base := w.heap.size) (e := 2) (size := 1) w #[] 0 (by simp) (by simp) rfl
  have HO0 := Lib.hid ho0
  have HK0 := Lib.hid hk0
  clear h hup hc hk0 ho0
  go_enter Tryd.func72, Tryd.ntmps72
  go_wp2_with fail
  go_loopw [5] (fun i wr => w = wr ∧ ∃ (j : Nat), j ≤ n ∧ i = .int .i64 j ∧ ∀ z ∈ ns.take j, z < k) (fun i _ => n - (intOf i).toNat)
  case atStart => exact ⟨rfl, 0, Nat.zero_le _, rfl, by simp⟩
  case round =>
    obtain ⟨rfl, j, hj, rfl, hlo⟩ := hrel
    have HLO := Lib.hid hlo
    clear hlo
    by_cases hlt : j < n
    · obtain ⟨x, hx⟩ : ∃ x, ns[j]? = some x := ⟨_, List.getElem?_eq_getElem (by rw [HL.out]; exact hlt)⟩
      have c0 : w.cell? ⟨b, off + j, none⟩ = some (.int .i64 x) := by rw [HC.out j hlt, vals_gi hx]
      have hji : (j : Int) < (n : Int) := by omega
      have HX := Lib.hid hx
      clear hx
      rcases Int.lt_trichotomy x k with hlt2 | heq | hgt
      · have HT := Lib.hid (show ∀ z ∈ ns.take (j + 1), z < k by
          rw [List.take_add_one, HX.out]
          intro z hz
          rcases List.mem_append.1 hz with g | g
          · exact HLO.out z g
          · simp at g; omega)
        go_wp2_with fail
        go_roundw
        case rel => exact ⟨by first | rfl | trivial, j + 1, hlt, by go_num, HT.out⟩
        case measure => simp [intOf]; omega
      · subst heq
        have hm : x ∈ ns := List.mem_of_getElem? HX.out
        have HP := Lib.hid (put_same HUP.out hm)
        have hlx : ¬ x < x := by omega
        go_wp2_with fail
        go_ret
        exact ⟨_, n, c, ns, rfl, HA.out, HP.out, Keep.refl _⟩
      · have hlx : ¬ x < k := by omega
        have hne : (x == k) = false := by rw [beq_eq_false_iff_ne]; omega
        have hjc : ¬ c = j := by omega
        have hjc2 : (j : Int) ≤ (c : Int) := by omega
        have HF := Lib.hid ((lies_first HA.out.lies (show j ≤ n by omega)).below HK0.out)
        have HR := Lib.hid (lies_rest HA.out.lies (show j ≤ n by omega))
        have HN := Lib.hid (fun (hall : ∀ z ∈ ns.drop j, k < z) => put_split HUP.out HLO.out hall)
        have HBH := Lib.hid (behind HUP.out HX.out hgt)
        go_wp2_with (first
          | (at_builtin; refine wpList_append_from rfl _ _ 71 rfl w.heap.size 2 i0 (.int .i64 0) 8 Tryd.underlying71 hi hz0 hz1 hz2 rfl _ (j + 1) (vals .i64 (ns.take j) ++ vals .i64 [k]) rfl HO2.out w.heap.size (some ⟨b, off + j, none⟩) _ _ (vals .i64 (ns.drop j)) rfl (HR.out.below HK2.out) (fun h => by cases h) (vals_one _ _) (by unfold maxLen; omega) (by omega) (by have := HK2.out.size; omega) ?_; intro A3 c3 w3 hown3 hgrow3 hat3; have HO3 := Lib.hid hown3; have HK3 := Lib.hid (keep_grown HK2.out HO2.out hgrow3); clear hown3 hgrow3 hat3)
          | (at_builtin; refine wpList_append_from rfl _ _ 71 rfl w.heap.size 2 i0 (.int .i64 0) 8 Tryd.underlying71 hi hz0 hz1 hz2 rfl _ j (vals .i64 (ns.take j)) rfl (HO1.out.alloc _) (w1.heap.size + 1) (some ⟨w1.heap.size, 0, none⟩) 1 1 (vals .i64 [k]) rfl (one_i64 w1 k) (fun h => by cases h) (vals_one _ _) (by unfold maxLen; omega) (by omega) (by have := HK1.out.size; simp at this ⊢; omega) ?_; intro A2 c2 w2 hown2 hgrow2 hat2; have HO2 := Lib.hid hown2; have HK2 := Lib.hid (keep_grown (HK1.out.alloc _) (HO1.out.alloc _) hgrow2); clear hown2 hgrow2 hat2)
          | (at_builtin; go_must (refine wpList_append_from rfl _ _ 71 rfl w.heap.size 2 i0 (.int .i64 0) 8 Tryd.underlying71 hi hz0 hz1 hz2 rfl _ 0 [] rfl HO0.out w.heap.size (some ⟨b, off, none⟩) j c (vals .i64 (ns.take j)) rfl HF.out (fun h => by cases h) (vals_one _ _) (by unfold maxLen; omega) (by omega) (by simp) ?_); intro A1 c1 w1 hown1 hgrow1 hat1; have HK1 := Lib.hid (keep_grown HK0.out HO0.out hgrow1); rw [Nat.zero_add, List.nil_append] at hown1; rw [Nat.zero_add]; have HO1 := Lib.hid hown1; clear hown1 hgrow1 hat1))
        go_ret
        exact ⟨_, _, _, _, rfl, put_row HO3.out, HN.out HBH.out, HK3.out⟩
    · obtain rfl : j = n := by omega
      clear hlt
      have hjj : (j : Int) ≤ (j : Int) := Int.le_refl _
      have HF := Lib.hid ((lies_first HA.out.lies (Nat.le_refl j)).below HK0.out)
      by_cases hcn : c = j
      · subst hcn
        obtain ⟨j, hjc⟩ : ∃ j, j = c := ⟨_, rfl⟩
        subst hjc
        have HR := Lib.hid (lies_zero w (some ⟨b, off, none⟩) ns HL.out)
        go_wp2_with (first
          | (at_builtin; refine wpList_append_from rfl _ _ 71 rfl w.heap.size 2 i0 (.int .i64 0) 8 Tryd.underlying71 hi hz0 hz1 hz2 rfl _ (j + 1) (vals .i64 (ns.take j) ++ vals .i64 [k]) rfl HO2.out w.heap.size (some ⟨b, off, none⟩) _ _ (vals .i64 (ns.drop j)) rfl (HR.out.below HK2.out) (fun h => by cases h) (vals_one _ _) (by unfold maxLen; omega) (by omega) (by have := HK2.out.size; omega) ?_; intro A3 c3 w3 hown3 hgrow3 hat3; have HO3 := Lib.hid hown3; have HK3 := Lib.hid (keep_grown HK2.out HO2.out hgrow3); clear hown3 hgrow3 hat3)
          | (at_builtin; refine wpList_append_from rfl _ _ 71 rfl w.heap.size 2 i0 (.int .i64 0) 8 Tryd.underlying71 hi hz0 hz1 hz2 rfl _ j (vals .i64 (ns.take j)) rfl (HO1.out.alloc _) (w1.heap.size + 1) (some ⟨w1.heap.size, 0, none⟩) 1 1 (vals .i64 [k]) rfl (one_i64 w1 k) (fun h => by cases h) (vals_one _ _) (by unfold maxLen; omega) (by omega) (by have := HK1.out.size; simp at this ⊢; omega) ?_; intro A2 c2 w2 hown2 hgrow2 hat2; have HO2 := Lib.hid hown2; have HK2 := Lib.hid (keep_grown (HK1.out.alloc _) (HO1.out.alloc _) hgrow2); clear hown2 hgrow2 hat2)
          | (at_builtin; go_must (refine wpList_append_from rfl _ _ 71 rfl w.heap.size 2 i0 (.int .i64 0) 8 Tryd.underlying71 hi hz0 hz1 hz2 rfl _ 0 [] rfl HO0.out w.heap.size (some ⟨b, off, none⟩) j j (vals .i64 (ns.take j)) rfl HF.out (fun h => by cases h) (vals_one _ _) (by unfold maxLen; omega) (by omega) (by simp) ?_); intro A1 c1 w1 hown1 hgrow1 hat1; have HK1 := Lib.hid (keep_grown HK0.out HO0.out hgrow1); rw [Nat.zero_add, List.nil_append] at hown1; rw [Nat.zero_add]; have HO1 := Lib.hid hown1; clear hown1 hgrow1 hat1))
        go_ret
        exact ⟨_, _, _, _, rfl, put_row HO3.out, put_split HUP.out HLO.out (fun z hz => by rw [List.drop_of_length_le (by rw [HL.out]; exact Nat.le_refl _)] at hz; cases hz), HK3.out⟩
      · have HR := Lib.hid (lies_zero w (some ⟨b, off + j, none⟩) ns HL.out)
        go_wp2_with (first
          | (at_builtin; refine wpList_append_from rfl _ _ 71 rfl w.heap.size 2 i0 (.int .i64 0) 8 Tryd.underlying71 hi hz0 hz1 hz2 rfl _ (j + 1) (vals .i64 (ns.take j) ++ vals .i64 [k]) rfl HO2.out w.heap.size (some ⟨b, off + j, none⟩) _ _ (vals .i64 (ns.drop j)) rfl (HR.out.below HK2.out) (fun h => by cases h) (vals_one _ _) (by unfold maxLen; omega) (by omega) (by have := HK2.out.size; omega) ?_; intro A3 c3 w3 hown3 hgrow3 hat3; have HO3 := Lib.hid hown3; have HK3 := Lib.hid (keep_grown HK2.out HO2.out hgrow3); clear hown3 hgrow3 hat3)
          | (at_builtin; refine wpList_append_from rfl _ _ 71 rfl w.heap.size 2 i0 (.int .i64 0) 8 Tryd.underlying71 hi hz0 hz1 hz2 rfl _ j (vals .i64 (ns.take j)) rfl (HO1.out.alloc _) (w1.heap.size + 1) (some ⟨w1.heap.size, 0, none⟩) 1 1 (vals .i64 [k]) rfl (one_i64 w1 k) (fun h => by cases h) (vals_one _ _) (by unfold maxLen; omega) (by omega) (by have := HK1.out.size; simp at this ⊢; omega) ?_; intro A2 c2 w2 hown2 hgrow2 hat2; have HO2 := Lib.hid hown2; have HK2 := Lib.hid (keep_grown (HK1.out.alloc _) (HO1.out.alloc _) hgrow2); clear hown2 hgrow2 hat2)
          | (at_builtin; go_must (refine wpList_append_from rfl _ _ 71 rfl w.heap.size 2 i0 (.int .i64 0) 8 Tryd.underlying71 hi hz0 hz1 hz2 rfl _ 0 [] rfl HO0.out w.heap.size (some ⟨b, off, none⟩) j c (vals .i64 (ns.take j)) rfl HF.out (fun h => by cases h) (vals_one _ _) (by unfold maxLen; omega) (by omega) (by simp) ?_); intro A1 c1 w1 hown1 hgrow1 hat1; have HK1 := Lib.hid (keep_grown HK0.out HO0.out hgrow1); rw [Nat.zero_add, List.nil_append] at hown1; rw [Nat.zero_add]; have HO1 := Lib.hid hown1; clear hown1 hgrow1 hat1))
        go_ret
        exact ⟨_, _, _, _, rfl, put_row HO3.out, put_split HUP.out HLO.out (fun z hz => by rw [List.drop_of_length_le (by rw [HL.out]; exact Nat.le_refl _)] at hz; cases hz), HK3.out⟩
end Go.Proofs.YtmdhbbibghpijaaDoor
