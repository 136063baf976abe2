/- The document's Reader: Num. -/
import Derived.Test.YtoilbmhijjkkaabRefRead2
namespace Go.Proofs.Ytoilbmhijjkkaab
open Go.RowKit

set_option maxRecDepth 100000 in
set_option maxHeartbeats 1000000 in
theorem rnumr_bad (A : Option Addr) (n c : Nat) (bad : Bool) (size : Int) (w : World) (h : bad = true ∨ (n : Int) < fsz size) :
    Calls Try.prog 22 #[.agg #[.slice A n c, .bool bad], .int .i64 size] w fun e w' => e = .returned (.tuple #[.agg #[.slice A n c, .bool true], .int .i64 0]) ∧ Keep w w' := by
  obtain ⟨f1, f2⟩ := fsz_bd size
  have HR := Lib.hid (fun w' => rgetr_bad A n c bad size w' h)
  have HH := Lib.hid (held_8 size)
  have hs0 : sgnI 0 (8 * fsz size) = 0 := by
    have hz : lowI 0 (8 * fsz size) = 0 := by unfold lowI; exact Int.zero_emod _
    unfold sgnI
    rw [hz, if_pos (twoP_pos _)]
  have hw8 : IntKind.i64.wrap (8 * fsz size) = 8 * fsz size := by rw [IntKind.wrap_i64]; omega
  clear h
  go_enter Try.func22, Try.ntmps22
  go_wp2_with fail
  obtain ⟨hb0, hb1, hs, hk0⟩ := two_boxes w (.slice A n c) (.bool bad) (.slice none 0 0) (.bool false)
  generalize (w.alloc (.cells #[.slice A n c, .bool bad] 43)).alloc (.cells #[.slice none 0 0, .bool false] 43) = w1 at *
  refine (HR.out w1).mono ?_
  rintro e w2 ⟨rfl, hk12⟩
  have g0 := (hk12.block w.heap.size (by omega)).trans hb0
  have g1 := (hk12.block (w.heap.size + 1) (by omega)).trans hb1
  have hk2 := hk0.trans hk12
  have hbb := set_two1 (.bool true) (set_two0 (.slice A n c) g0)
  obtain ⟨p0, p1, p2, p3⟩ := cell_two g0
  obtain ⟨q0, q1, q2, q3⟩ := cell_two g1
  clear hb0 hb1 hk0 hk12
  go_wp2_with fail
  have hk3 : Keep w ((w2.setCell ⟨w.heap.size, 0, none⟩ (.slice A n c)).setCell ⟨w.heap.size, 1, none⟩ (.bool true)) := Only.keep hk2 (((Only.refl (fun k => k = w.heap.size) _).setCell _ _ rfl).setCell _ _ rfl) (fun k h => by omega)
  have hb1'' : ((w2.setCell ⟨w.heap.size, 0, none⟩ (.slice A n c)).setCell ⟨w.heap.size, 1, none⟩ (.bool true)).heap[w.heap.size + 1]? = some (.cells #[.slice none 0 0, .bool false] 43 (0, 0)) := by
    rw [Below.heap_setCell _ _ _ _ (by show w.heap.size + 1 ≠ w.heap.size; omega), Below.heap_setCell _ _ _ _ (by show w.heap.size + 1 ≠ w.heap.size; omega)]
    exact g1
  generalize (w2.setCell ⟨w.heap.size, 0, none⟩ (.slice A n c)).setCell ⟨w.heap.size, 1, none⟩ (.bool true) = w3 at *
  clear p0 p1 p2 p3 q0 q1 q2 q3 g0 g1 hk2
  obtain ⟨p0, p1, p2, p3⟩ := cell_two hbb
  obtain ⟨q0, q1, q2, q3⟩ := cell_two hb1''
  go_region_with
    (first
      | (go_at_call 30; refine (held_any _ _ _ _).mono ?_; rintro e w' ⟨rfl, rfl⟩; rw [HH.out])
      | (go_at_call 34; refine (rsign_any _ _ _ (by omega) (by omega)).mono ?_; rintro e w' ⟨rfl, rfl⟩; rw [hs0]))
  all_goals
    go_wp2
    refine bodyPost_ret (v := .tuple #[.agg #[.slice A n c, .bool true], .int .i64 0]) (by simp [results, Try.results22, go_sem, q0, q1]) rfl ⟨rfl, ?_⟩
    exact Only.keep hk3.drew (((Only.refl (fun k => k = w.heap.size + 1) _).setCell _ _ rfl).setCell _ _ rfl) (fun k h => by omega)

set_option maxRecDepth 100000 in
set_option maxHeartbeats 1000000 in
theorem rnumr_ok (A : Option Addr) (c : Nat) (ys : List Int) (B : Nat) (size : Int) (K : Nat) (w : World) (hB : B ≤ w.heap.size) (hsr : Src w B A c ys) (hby : Byt ys) (hK : fsz size = (K : Int)) (h : K ≤ ys.length) :
    Calls Try.prog 22 #[.agg #[.slice A ys.length c, .bool false], .int .i64 size] w (GetR w B K ys (.int .i64 (sgnI (getB (ys.take K)) ((K : Int) * 8)))) := by
  have hf := fsz_bd size
  have hK8 : K ≤ 8 := by omega
  have HR := Lib.hid (fun w' (hk : Keep w w') => rgetr_ok A c ys B size K w' (Nat.le_trans hB hk.size) (hsr.forth hk hB) hby hK h)
  have HH := Lib.hid ((held_8 size).trans hK)
  have hw8 : IntKind.i64.wrap (8 * (K : Int)) = 8 * (K : Int) := by rw [IntKind.wrap_i64]; omega
  have hbd := getB_bd K ys hby h
  have hp := pow256_le hK8
  rw [show pow256 8 = 18446744073709551616 from rfl] at hp
  have HM := Lib.hid (show 8 * (K : Int) = (K : Int) * 8 by omega)
  generalize getB (ys.take K) = M at *
  clear hby hK hf hsr
  go_enter Try.func22, Try.ntmps22
  go_wp2_with fail
  obtain ⟨hb0, hb1, hs, hk0⟩ := two_boxes w (.slice A ys.length c) (.bool false) (.slice none 0 0) (.bool false)
  generalize (w.alloc (.cells #[.slice A ys.length c, .bool false] 43)).alloc (.cells #[.slice none 0 0, .bool false] 43) = w1 at *
  refine (HR.out w1 hk0).mono ?_
  rintro e w2 ⟨A2, c2, rfl, hs2, hk12⟩
  have hs2' := hs2.back hk0 hB
  have g1 := (hk12.block (w.heap.size + 1) (by omega)).trans hb1
  have g0 := (hk12.block w.heap.size (by omega)).trans hb0
  have hk2 := hk0.trans hk12
  have hbb := set_two1 (.bool false) (set_two0 (.slice A2 (ys.length - K) c2) g0)
  obtain ⟨p0, p1, p2, p3⟩ := cell_two g0
  obtain ⟨q0, q1, q2, q3⟩ := cell_two g1
  clear hb0 hb1 hk0 hk12 hs2
  go_wp2_with fail
  have hk3 : Keep w ((w2.setCell ⟨w.heap.size, 0, none⟩ (.slice A2 (ys.length - K) c2)).setCell ⟨w.heap.size, 1, none⟩ (.bool false)) := Only.keep hk2 (((Only.refl (fun k => k = w.heap.size) _).setCell _ _ rfl).setCell _ _ rfl) (fun k h => by omega)
  have hb1'' : ((w2.setCell ⟨w.heap.size, 0, none⟩ (.slice A2 (ys.length - K) c2)).setCell ⟨w.heap.size, 1, none⟩ (.bool false)).heap[w.heap.size + 1]? = some (.cells #[.slice none 0 0, .bool false] 43 (0, 0)) := by
    rw [Below.heap_setCell _ _ _ _ (by show w.heap.size + 1 ≠ w.heap.size; omega), Below.heap_setCell _ _ _ _ (by show w.heap.size + 1 ≠ w.heap.size; omega)]
    exact g1
  generalize (w2.setCell ⟨w.heap.size, 0, none⟩ (.slice A2 (ys.length - K) c2)).setCell ⟨w.heap.size, 1, none⟩ (.bool false) = w3 at *
  clear p0 p1 p2 p3 q0 q1 q2 q3 g0 g1 hk2
  obtain ⟨p0, p1, p2, p3⟩ := cell_two hbb
  obtain ⟨q0, q1, q2, q3⟩ := cell_two hb1''
  go_region_with
    (first
      | (go_at_call 30; refine (held_any _ _ _ _).mono ?_; rintro e w' ⟨rfl, rfl⟩; rw [HH.out])
      | (go_at_call 34; refine (rsign_any _ _ _ (by omega) (by omega)).mono ?_; rintro e w' ⟨rfl, rfl⟩; rw [HM.out]))
  all_goals
    go_wp2
    refine bodyPost_ret (v := .tuple #[.agg #[.slice A2 (ys.length - K) c2, .bool false], .int .i64 (sgnI M ((K : Int) * 8))]) (by simp [results, Try.results22, go_sem, q0, q1]) rfl ⟨A2, c2, by rw [List.length_drop], hs2', ?_⟩
    exact Only.keep hk3.drew (((Only.refl (fun k => k = w.heap.size + 1) _).setCell _ _ rfl).setCell _ _ rfl) (fun k h => by omega)
end Go.Proofs.Ytoilbmhijjkkaab
