/- The document's Reader: Get and Num; Join of one row of bytes. -/
import Derived.Test.YtoilbmhijjkkaabRefRead
import Derived.Deep.RegionWith
namespace Go.Proofs.Ytoilbmhijjkkaab
open Go.RowKit

theorem two_boxes (w : World) (x y u v : Value) : ((w.alloc (.cells #[x, y] 43)).alloc (.cells #[u, v] 43)).heap[w.heap.size]? = some (.cells #[x, y] 43 (0, 0)) ∧
    ((w.alloc (.cells #[x, y] 43)).alloc (.cells #[u, v] 43)).heap[w.heap.size + 1]? = some (.cells #[u, v] 43 (0, 0)) ∧
    ((w.alloc (.cells #[x, y] 43)).alloc (.cells #[u, v] 43)).heap.size = w.heap.size + 2 ∧ Keep w ((w.alloc (.cells #[x, y] 43)).alloc (.cells #[u, v] 43)) := by
  have q : (w.alloc (.cells #[x, y] 43)).heap.size = w.heap.size + 1 := by simp
  refine ⟨(((Keep.refl (w.alloc (.cells #[x, y] 43))).alloc (.cells #[u, v] 43)).block w.heap.size (by omega)).trans (heap_alloc_new w _), ?_, by simp, ((Keep.refl w).alloc _).alloc _⟩
  rw [← q]
  exact heap_alloc_new _ _

theorem box_set {w w1 w2 : World} {x y x' y' u v : Value} (hb0 : w1.heap[w.heap.size]? = some (.cells #[x, y] 43 (0, 0))) (hb1 : w1.heap[w.heap.size + 1]? = some (.cells #[u, v] 43 (0, 0))) (hs : w1.heap.size = w.heap.size + 2) (hk : Keep w w1) (hk12 : Keep w1.drew w2) :
    ((w2.setCell ⟨w.heap.size, 0, none⟩ x').setCell ⟨w.heap.size, 1, none⟩ y').heap[w.heap.size]? = some (.cells #[x', y'] 43 (0, 0)) ∧
    ((w2.setCell ⟨w.heap.size, 0, none⟩ x').setCell ⟨w.heap.size, 1, none⟩ y').heap[w.heap.size + 1]? = some (.cells #[u, v] 43 (0, 0)) ∧ Keep w ((w2.setCell ⟨w.heap.size, 0, none⟩ x').setCell ⟨w.heap.size, 1, none⟩ y') := by
  have s1 : w1.drew.heap.size = w.heap.size + 2 := hs
  have g0 : w2.heap[w.heap.size]? = some (.cells #[x, y] 43 (0, 0)) := (hk12.block w.heap.size (by omega)).trans hb0
  have g1 : w2.heap[w.heap.size + 1]? = some (.cells #[u, v] 43 (0, 0)) := (hk12.block (w.heap.size + 1) (by omega)).trans hb1
  refine ⟨set_two1 _ (set_two0 _ g0), ?_, ?_⟩
  · rw [Below.heap_setCell _ _ _ _ (by show w.heap.size + 1 ≠ w.heap.size; omega), Below.heap_setCell _ _ _ _ (by show w.heap.size + 1 ≠ w.heap.size; omega)]
    exact g1
  · exact Only.keep (hk.drew.trans hk12) (((Only.refl (fun k => k = w.heap.size) w2).setCell _ _ rfl).setCell _ _ rfl) (fun k h => by omega)

set_option maxRecDepth 100000 in
set_option maxHeartbeats 1000000 in
theorem rgetr_bad (A : Option Addr) (n c : Nat) (bad : Bool) (size : Int) (w : World) (h : bad = true ∨ (n : Int) < fsz size) :
    Calls Try.prog 20 #[.agg #[.slice A n c, .bool bad], .int .i64 size] w fun e w' => e = .returned (.tuple #[.agg #[.slice A n c, .bool true], .int .u64 0]) ∧ Keep w w' := by
  have hf := fsz_bd size
  have HR := Lib.hid (fun w' => rrawr_bad A n c bad (fsz size) w' (by rcases h with h | h; exact .inl h; exact .inr (by omega)))
  have HH := Lib.hid (held_8 size)
  clear h
  go_enter Try.func20, Try.ntmps20
  go_wp2_with fail
  obtain ⟨hb0, hb1, hs, hk0⟩ := two_boxes w (.slice A n c) (.bool bad) (.slice none 0 0) (.bool false)
  generalize (w.alloc (.cells #[.slice A n c, .bool bad] 43)).alloc (.cells #[.slice none 0 0, .bool false] 43) = w1 at *
  have hb0d : w1.drew.heap[w.heap.size]? = some (.cells #[.slice A n c, .bool bad] 43 (0, 0)) := hb0
  obtain ⟨d0, d1, d2, d3⟩ := cell_two hb0d
  go_region_with
    (first
      | (go_at_call 30; refine (held_any _ _ _ _).mono ?_; rintro e w' ⟨rfl, rfl⟩; rw [HH.out])
      | (go_at_call 24; refine (HR.out _).mono ?_; rintro e w2 ⟨rfl, hk12⟩; have hb2 := (hk12.block w.heap.size (by show w.heap.size < w1.heap.size; omega)).trans hb0d; obtain ⟨e0, e1, e2, e3⟩ := cell_two hb2))
  all_goals
    obtain ⟨hbb, hb1', hk3⟩ := box_set (x' := .slice A n c) (y' := .bool true) hb0 hb1 hs hk0 hk12
    generalize (w2.setCell ⟨w.heap.size, 0, none⟩ (.slice A n c)).setCell ⟨w.heap.size, 1, none⟩ (.bool true) = w3 at *
    obtain ⟨p0, p1, p2, p3⟩ := cell_two hbb
    obtain ⟨q0, q1, q2, q3⟩ := cell_two hb1'
    clear d0 d1 d2 d3 e0 e1 e2 e3 hb2 hb0d hb0 hb1 hbb hb1' hk0 hk12
    go_wp2_with fail
    go_loopw [7, 8] (fun v i wr => v = .int .u64 0 ∧ i = .int .i64 0 ∧ w3 = wr) (fun _ _ _ => 0)
    case atStart => exact ⟨rfl, rfl, rfl⟩
    case round =>
      obtain ⟨rfl, rfl, rfl⟩ := hrel
      go_wp2
      refine bodyPost_ret (v := .tuple #[.agg #[.slice A n c, .bool true], .int .u64 0]) (by simp [results, Try.results20, go_sem, q0, q1]) rfl ⟨rfl, ?_⟩
      exact Only.keep hk3 (((Only.refl (fun k => k = w.heap.size + 1) _).setCell _ _ rfl).setCell _ _ rfl) (fun k h => by omega)

theorem getB_step (zs : List Int) (j : Nat) (h : j < zs.length) : getB (zs.take (j + 1)) = 256 * getB (zs.take j) + zs.getD j 0 := by
  rw [List.take_add_one, List.getElem?_eq_getElem h, Option.toList_some, getB_snoc, List.getD_eq_getElem?_getD, List.getElem?_eq_getElem h]
  show _ = 256 * getB (zs.take j) + zs[j]
  omega
theorem byt_getD {zs : List Int} (h : Byt zs) (j : Nat) : 0 ≤ zs.getD j 0 ∧ zs.getD j 0 ≤ 255 := by
  rw [List.getD_eq_getElem?_getD]
  cases hj : zs[j]? with
  | none => simp
  | some x => exact h x (List.mem_of_getElem? hj)

/-- Get when there are enough. -/
def GetR (w : World) (B K : Nat) (ys : List Int) (v : Value) (e : Ending) (w' : World) : Prop :=
  ∃ A2 c2, e = .returned (.tuple #[.agg #[.slice A2 (ys.drop K).length c2, .bool false], v]) ∧ Src w B A2 c2 (ys.drop K) ∧ Keep w w'

set_option maxRecDepth 100000 in
set_option maxHeartbeats 1000000 in
theorem rgetr_ok (A : Option Addr) (c : Nat) (ys : List Int) (B : Nat) (size : Int) (K : Nat) (w : World) (hB : B ≤ w.heap.size) (hsr : Src w B A c ys) (hby : Byt ys) (hK : fsz size = (K : Int)) (h : K ≤ ys.length) :
    Calls Try.prog 20 #[.agg #[.slice A ys.length c, .bool false], .int .i64 size] w (GetR w B K ys (.int .u64 (getB (ys.take K)))) := by
  have hf := fsz_bd size
  have hK8 : K ≤ 8 := by omega
  have HR := Lib.hid (fun w' (hk : Keep w w') => rrawr_ok A c ys B K K w' (hsr.forth hk hB) (by omega) h)
  have HH := Lib.hid ((held_8 size).trans hK)
  have HY := Lib.hid hby
  have hy := hsr.2.1
  clear hby hK hf hsr
  go_enter Try.func20, Try.ntmps20
  go_wp2_with fail
  obtain ⟨hb0, hb1, hs, hk0⟩ := two_boxes w (.slice A ys.length c) (.bool false) (.slice none 0 0) (.bool false)
  generalize (w.alloc (.cells #[.slice A ys.length c, .bool false] 43)).alloc (.cells #[.slice none 0 0, .bool false] 43) = w1 at *
  have hb0d : w1.drew.heap[w.heap.size]? = some (.cells #[.slice A ys.length c, .bool false] 43 (0, 0)) := hb0
  obtain ⟨d0, d1, d2, d3⟩ := cell_two hb0d
  go_region_with
    (first
      | (go_at_call 30; refine (held_any _ _ _ _).mono ?_; rintro e w' ⟨rfl, rfl⟩; rw [HH.out])
      | (go_at_call 24; refine (HR.out _ hk0.drew).mono ?_; rintro e w2 ⟨A1, c1, A2, c2, rfl, hs1, hs2, hk12⟩; have hb2 := (hk12.block w.heap.size (by show w.heap.size < w1.heap.size; omega)).trans hb0d; obtain ⟨e0, e1, e2, e3⟩ := cell_two hb2))
  all_goals
    obtain ⟨hbb, hb1', hk3⟩ := box_set (x' := .slice A2 (ys.length - K) c2) (y' := .bool false) hb0 hb1 hs hk0 hk12
    generalize (w2.setCell ⟨w.heap.size, 0, none⟩ (.slice A2 (ys.length - K) c2)).setCell ⟨w.heap.size, 1, none⟩ (.bool false) = w3 at *
    obtain ⟨p0, p1, p2, p3⟩ := cell_two hbb
    obtain ⟨q0, q1, q2, q3⟩ := cell_two hb1'
    have hk0d := hk0.drew
    clear d0 d1 d2 d3 e0 e1 e2 e3 hb2 hb0d hb0 hb1 hbb hb1' hk0 hk12
    have hs1' := (hs1.back hk0d hB).forth hk3 hB
    have hs2' := hs2.back hk0d hB
    have e2' : (ys.take K).length = K := by simp; omega
    have HBL := Lib.hid (HY.out.take K)
    have HE := Lib.hid e2'
    obtain ⟨hl1, hcc1, hnn1⟩ := hs1'
    rw [e2'] at hl1 hcc1
    clear hs1 hs2 e2'
    go_wp2_with fail
    go_loopw [7, 8] (fun v i wr => ∃ j : Nat, j ≤ K ∧ v = .int .u64 (getB ((ys.take K).take j)) ∧ i = .int .i64 j ∧ w3 = wr) (fun _ i _ => K - (intOf i).toNat)
    case atStart => exact ⟨0, Nat.zero_le _, rfl, rfl, rfl⟩
    case round =>
      obtain ⟨j, hj, rfl, rfl, rfl⟩ := hrel
      by_cases hlt : j < K
      · obtain ⟨g1, off1, rfl, -, hcell⟩ := hl1.2 (by omega)
        have hc1 := hcell j hlt
        rw [vals_getD _ _ _ (by rw [HE.out]; omega)] at hc1
        have HST := Lib.hid (getB_step (ys.take K) j (by rw [HE.out]; omega))
        have hbd := getB_bd j (ys.take K) HBL.out (by rw [HE.out]; omega)
        have hp := pow256_le (show j ≤ 7 by omega)
        rw [show pow256 7 = 72057594037927936 from rfl] at hp
        have hx := byt_getD HBL.out j
        generalize (ys.take K).getD j 0 = x at *
        generalize getB ((ys.take K).take j) = acc at *
        clear hcell
        go_wp2_with fail
        go_roundw
        case rel => exact ⟨j + 1, hlt, by rw [HST.out], by go_num, by first | rfl | trivial⟩
        case measure => simp [intOf]; omega
      · obtain rfl : j = K := by omega
        go_wp2
        refine bodyPost_ret (v := .tuple #[.agg #[.slice A2 (ys.length - j) c2, .bool false], .int .u64 (getB ((ys.take j).take j))]) (by simp [results, Try.results20, go_sem, q0, q1]) rfl ?_
        refine ⟨A2, c2, by rw [List.take_take, Nat.min_self, List.length_drop], hs2', ?_⟩
        exact Only.keep hk3 (((Only.refl (fun k => k = w.heap.size + 1) _).setCell _ _ rfl).setCell _ _ rfl) (fun k h => by omega)
end Go.Proofs.Ytoilbmhijjkkaab
