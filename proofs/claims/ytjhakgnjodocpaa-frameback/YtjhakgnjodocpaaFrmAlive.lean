/- The law's own example: it says true. -/
import Derived.Test.YtjhakgnjodocpaaFrmAll2
import Derived.Lib.SlBytesConst
namespace Go.Proofs.Ytjhakgnjodocpaa
open Go.RowKit

/-- Bytes that were just laid. -/
theorem by_new (w : World) (zs : List Int) (fr : Nat × Nat) : By (w.alloc (.cells (vals .u8 zs).toArray 5 fr)) (w.heap.size + 1) (some ⟨w.heap.size, 0, none⟩) zs.length zs.length zs := by
  refine ⟨⟨vals_length _ _, fun _ => ⟨w.heap.size, 0, rfl, by omega, fun k hk => ?_⟩⟩, Nat.le_refl _, fun h => by cases h⟩
  have hk' : k < (vals .u8 zs).length := by rw [vals_length]; exact hk
  have h := World.alloc_heap_new w (.cells (vals .u8 zs).toArray 5 fr)
  have e : (w.alloc (.cells (vals .u8 zs).toArray 5 fr)).cell? ⟨w.heap.size, 0 + k, none⟩ = (vals .u8 zs).toArray[0 + k]? := by
    unfold World.cell?
    rw [h]
    rfl
  rw [e]
  simp [List.getD_eq_getElem?_getD, hk']
theorem row_conv {w : World} {base : Nat} {v : Value} {n : Nat} {xs : List Int} (h : w.ownsRow base 5 1 v n (vals .u8 xs)) : (convert 22 9 v).run Try.prog w = .ok (.string (strOfNums xs)) w := by
  obtain ⟨A, c, rfl, hl⟩ := Lies.of_row h
  exact conv_any A n c xs w _ hl
theorem row_slice {w : World} {base : Nat} {e : TypeId} {v : Value} {n : Nat} {xs : List Value} (h : w.ownsRow base e 1 v n xs) : ∃ A c, v = .slice A n c := by
  obtain ⟨A, c, h, _⟩ := Lies.of_row h
  exact ⟨A, c, h⟩

theorem f1 : frm [97, 98] = [0, 2, 97, 98] := by decide +kernel
theorem e1 : cutE [0, 1, 120, 121, 122] = 0 := by decide +kernel
theorem h1 : hd [0, 1, 120, 121, 122] = 1 := by decide +kernel
theorem e2 : cutE [4, 1] = 2 := by decide +kernel
theorem e3 : cutE [0, 1] = 20 := by decide +kernel
theorem s1 : spl [0, 1, 97, 0, 0, 0] = ([[97], []], [0], 0) := by decide +kernel
theorem b1 : Byt [0, 1, 120, 121, 122] := by unfold Byt; decide
theorem b2 : Byt [4, 1] := by unfold Byt; decide
theorem b3 : Byt [0, 1] := by unfold Byt; decide
theorem b4 : Byt [0, 1, 97, 0, 0, 0] := by unfold Byt; decide

set_option maxRecDepth 100000 in
set_option maxHeartbeats 2000000 in
theorem alive_any (w : World) : Calls Try.prog 9 #[] w fun e w' => e = .returned (.bool true) ∧ Keep w w' := by
  have cq := fun (w : World) (C : Array Value) (n c : Nat) => Lib.run_convert_bytes_const w 22 5 C n c Try.underlying22 Try.underlying5
  go_enter Try.func9, Try.ntmps9
  go_wp2_with fail
  have y1 : By (w.alloc (.cells #[.int .u8 97, .int .u8 98] 5 (2, 3))) (w.heap.size + 1) (some ⟨w.heap.size, 0, none⟩) 2 2 [97, 98] := by_new w [97, 98] _
  refine (wrap_yes _ 2 2 [97, 98] _ (w.heap.size + 1) (by simp) y1 (by omega)).mono ?_
  rintro e w1 ⟨v1, rfl, hr1, hk1⟩
  rw [f1] at hr1
  have hk1 : Keep w w1 := ((Keep.refl w).alloc _).trans hk1
  replace hr1 : w1.ownsRow _ 5 1 v1 4 (vals .u8 [0, 2, 97, 98]) := hr1
  obtain ⟨A1, c1, rfl⟩ := row_slice hr1
  have cv1 := row_conv hr1
  rw [show strOfNums [0, 2, 97, 98] = ⟨#[0, 2, 97, 98]⟩ from by decide +kernel] at cv1
  clear y1 hr1
  go_wp2_with fail
  clear cv1
  have y2 : By (w1.alloc (.cells #[.int .u8 0, .int .u8 1, .int .u8 120, .int .u8 121, .int .u8 122] 5 (5, 6))) (w1.heap.size + 1) (some ⟨w1.heap.size, 0, none⟩) 5 5 [0, 1, 120, 121, 122] := by_new w1 [0, 1, 120, 121, 122] _
  refine (next_yes _ 5 5 _ _ (w1.heap.size + 1) (by simp) y2 b1 (by omega) e1).mono ?_
  rintro e w2 ⟨v2, v3, rfl, hr2, hr3, hk2⟩
  rw [h1] at hr2 hr3
  replace hr2 : w2.ownsRow _ 5 1 v2 1 (vals .u8 [120]) := hr2
  replace hr3 : w2.ownsRow _ 5 1 v3 2 (vals .u8 [121, 122]) := hr3
  have hk2 := (hk1.alloc _).trans hk2
  clear y2 hk1
  obtain ⟨A2, c2, rfl⟩ := row_slice hr2
  obtain ⟨A3, c3, rfl⟩ := row_slice hr3
  go_wp2_with fail
  have y3 : By (w2.alloc (.cells #[.int .u8 4, .int .u8 1] 5)) (w2.heap.size + 1) (some ⟨w2.heap.size, 0, none⟩) 2 2 [4, 1] := by_new w2 [4, 1] _
  have n3 := next_no _ 2 2 _ _ (w2.heap.size + 1) (by simp) y3 b2 (by omega) (by rw [e2]; decide)
  rw [e2] at n3
  refine n3.mono ?_
  rintro e w3 ⟨rfl, hk3⟩
  have hk23 := ((Keep.refl w2).alloc _).trans hk3
  have hr2 := row_keep hr2 hk23
  have hr3 := row_keep hr3 hk23
  have hk3 := hk2.trans hk23
  clear y3 n3 hk23 hk2
  go_wp2_with fail
  have y4 : By (w3.alloc (.cells #[.int .u8 0, .int .u8 1] 5)) (w3.heap.size + 1) (some ⟨w3.heap.size, 0, none⟩) 2 2 [0, 1] := by_new w3 [0, 1] _
  have n4 := next_no _ 2 2 _ _ (w3.heap.size + 1) (by simp) y4 b3 (by omega) (by rw [e3]; decide)
  rw [e3] at n4
  refine n4.mono ?_
  rintro e w4 ⟨rfl, hk4⟩
  have hk34 := ((Keep.refl w3).alloc _).trans hk4
  have hr2 := row_keep hr2 hk34
  have hr3 := row_keep hr3 hk34
  have hk4 := hk3.trans hk34
  clear y4 n4 hk34 hk3
  go_wp2_with fail
  have y5 : By (w4.alloc (.cells #[.int .u8 0, .int .u8 1, .int .u8 97, .int .u8 0, .int .u8 0, .int .u8 0] 5 (6, 7))) (w4.heap.size + 1) (some ⟨w4.heap.size, 0, none⟩) 6 6 [0, 1, 97, 0, 0, 0] := by_new w4 [0, 1, 97, 0, 0, 0] _
  have n5 := split_any _ 6 6 _ _ (w4.heap.size + 1) (by simp) y5 b4 (by omega)
  unfold Splitted at n5
  rw [s1] at n5
  refine n5.mono ?_
  rintro e w5 ⟨vb, vl, vs, rfl, hr5, hb5, hl5, hk5⟩
  have hk45 := ((Keep.refl w4).alloc _).trans hk5
  have hr2 := row_keep hr2 hk45
  have hr3 := row_keep hr3 hk45
  have hk5 := hk4.trans hk45
  rw [show vs.length = 2 from hb5.1] at hr5
  replace hl5 : w5.ownsRow _ 5 1 vl 1 (vals .u8 [0]) := hl5
  obtain ⟨A5, c5, rfl⟩ := row_slice hr5
  obtain ⟨A6, c6, rfl⟩ := row_slice hl5
  have cv2 := row_conv hr2
  have cv3 := row_conv hr3
  rw [show strOfNums [120] = ⟨#[120]⟩ from by decide +kernel] at cv2
  rw [show strOfNums [121, 122] = ⟨#[121, 122]⟩ from by decide +kernel] at cv3
  clear y5 n5 hk45 hk4 hr2 hr3 hr5 hl5 hb5
  go_wp2_with fail
  have y6 : By (w5.alloc (.cells #[.int .u8 0, .int .u8 1, .int .u8 97, .int .u8 0, .int .u8 0, .int .u8 0] 5 (6, 7))) (w5.heap.size + 1) (some ⟨w5.heap.size, 0, none⟩) 6 6 [0, 1, 97, 0, 0, 0] := by_new w5 [0, 1, 97, 0, 0, 0] _
  have n6 := lall_any _ 6 6 9 _ _ (w5.heap.size + 1) (by simp) y6 b4 (by omega) (by omega) (by omega)
  rw [s1, show min 9 (([[97], []] : List (List Int)), ([0] : List Int), (0 : Int)).1.length = 2 from rfl] at n6
  refine n6.mono ?_
  rintro e w6 ⟨v6, ys6, rfl, -, hr6, hk6⟩
  obtain ⟨A7, c7, rfl⟩ := row_slice hr6
  have hk6 := (hk5.alloc _).trans hk6
  clear y6 n6 hr6
  go_wp2
  go_ret
  exact ⟨rfl, hk6⟩
end Go.Proofs.Ytjhakgnjodocpaa
