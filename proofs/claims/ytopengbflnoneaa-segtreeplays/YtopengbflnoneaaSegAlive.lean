/- The document's example of layer 10. -/
import Derived.Test.YtopengbflnoneaaSegPairs
import Derived.Test.YtopengbflnoneaaSegWays
namespace Go.Proofs.Ytopengbflnoneaa
open Go.RowKit

set_option maxRecDepth 100000 in
set_option maxHeartbeats 4000000 in
theorem alive_any (w : World) : Calls Try.prog 9 #[] w fun e w' => e = .returned (.bool true) ∧ Keep w w' := by
  obtain ⟨t1, ht1⟩ : ∃ t1, t1 = grow 32 0 2 0 .nil := ⟨_, rfl⟩
  have w1 : Ways t1 [2] := by rw [ht1]; exact Ways.nil.put 2 0 (by decide) (by decide)
  have L1 := Lib.hid (lack_nil 32 0 2)
  have l2 : lack 32 0 3 t1 = 1 := (w1 3 (by decide) (by decide)).trans (by decide)
  have L2 := Lib.hid l2
  obtain ⟨t2, ht2⟩ : ∃ t2, t2 = grow 32 0 3 33 t1 := ⟨_, rfl⟩
  have w2 : Ways t2 [3, 2] := by rw [ht2]; exact w1.put 3 33 (by decide) (by decide)
  have L3 := Lib.hid (show lack 32 0 2147483648 t2 = 32 from (w2 2147483648 (by decide) (by decide)).trans (by decide))
  have HE1 := Lib.hid ht1
  have HE2 := Lib.hid ht2
  have hnew := tre_new 34 w (by decide) (by decide)
  clear w1 w2 l2 ht1 ht2
  go_enter Try.func9, Try.ntmps9
  go_wp2_with fail
  refine hnew.mono ?_
  rintro e wa ⟨rfl, hT⟩
  have HT := Lib.hid hT
  clear hnew hT
  go_wp2_with fail
  refine (tre_put_yes HT.out (by simp) (by decide) (by decide) ⟨by decide, by decide⟩ (by rw [L1.out]; decide)).mono ?_
  rintro e wb ⟨rfl, hT, -⟩
  rw [L1.out, ← HE1.out, show 0 + (32 + 1) = 33 from rfl, show insK 2 5 [] = [(2, 5)] from by decide] at hT
  clear HT
  have HT := Lib.hid hT
  clear hT
  go_wp2_with fail
  refine (tre_nodes HT.out).mono ?_
  rintro e wb' ⟨rfl, rfl⟩
  go_wp2_with fail
  refine (tre_put_yes HT.out (by simp) (by decide) (by decide) ⟨by decide, by decide⟩ (by rw [L2.out]; decide)).mono ?_
  rintro e wc ⟨rfl, hT, -⟩
  rw [L2.out, ← HE2.out, show 33 + 1 = 34 from rfl, show insK 3 (-1) [(2, 5)] = [(2, 5), (3, -1)] from by decide] at hT
  clear HT
  have HT := Lib.hid hT
  clear hT
  go_wp2_with fail
  refine (tre_nodes HT.out).mono ?_
  rintro e wc' ⟨rfl, rfl⟩
  go_wp2_with fail
  refine (tre_put_no HT.out (by decide) (by decide) (by rw [L3.out]; decide)).mono ?_
  rintro e wd ⟨rfl, hk⟩
  have HT' := Lib.hid (HT.out.kept hk)
  clear HT hk
  have HT := HT'
  clear HT'
  go_wp2_with fail
  refine (tre_fold HT.out (by simp) 0 9).mono ?_
  rintro e we ⟨rfl, hk⟩
  rw [show ofL (vs ([(2, 5), (3, -1)].filter (inS 0 9))) = ⟨2, 4, -1, 5⟩ from by kernel_rfl]
  have HX := Lib.hid (show AgAt (we.alloc (.cells #[.int .i64 2, .int .i64 4, .int .i64 (-1), .int .i64 5] 38)) we.heap.size ⟨2, 4, -1, 5⟩ from AgAt.new we ⟨2, 4, -1, 5⟩)
  have HT' := Lib.hid ((HT.out.kept hk).keep ((Keep.refl we).alloc (.cells #[.int .i64 2, .int .i64 4, .int .i64 (-1), .int .i64 5] 38)))
  clear HT hk
  have HT := HT'
  clear HT'
  go_wp2_with fail
  generalize we.alloc (.cells #[.int .i64 2, .int .i64 4, .int .i64 (-1), .int .i64 5] 38) = wf at *
  have HXL := Lib.hid HX.out.lt
  refine (tre_get HT.out (by simp) 3 ⟨1, -1, -1, -1⟩ (by kernel_rfl) true (by kernel_rfl)).mono ?_
  rintro e wg ⟨rfl, hk⟩
  have HT' := Lib.hid (HT.out.kept hk)
  have HX' := Lib.hid (HX.out.keep hk)
  clear HT HX hk
  have HT := HT'
  have HX := HX'
  clear HT' HX'
  go_wp2_with fail
  refine (pairs_some HT.out (by simp) 9 (by decide) (by decide)).mono ?_
  rintro e wh ⟨A, cc, rfl, hrow, hk⟩
  rw [show ([(2, 5), (3, -1)] : List (Int × Int)).take 9 = [(2, 5), (3, -1)] from rfl]
  clear hrow
  have HT' := Lib.hid (HT.out.kept hk)
  have HX' := Lib.hid (HX.out.keep hk)
  clear HT HX hk
  have HT := HT'
  have HX := HX'
  clear HT' HX'
  go_wp2_with fail
  refine (tre_kill HT.out (by simp) 3 4294967295).mono ?_
  rintro e wi ⟨rfl, hT, ho⟩
  rw [show (ofL (vs (([(2, 5), (3, -1)] : List (Int × Int)).filter (inS 3 4294967295)))).c = 1 from by kernel_rfl]
  rw [show ([(2, 5), (3, -1)] : List (Int × Int)).filter (fun x => !inS 3 4294967295 x) = [(2, 5)] from by decide] at hT
  have HT' := Lib.hid hT
  have HX' := Lib.hid (agat_only HX.out ho (fun h => h (.inr ⟨Nat.le_refl _, HXL.out⟩)))
  clear HT HX hT ho
  have HT := HT'
  have HX := HX'
  clear HT' HX'
  go_wp2_with fail
  refine (tre_get HT.out (by simp) 3 nil0 (by kernel_rfl) false (by kernel_rfl)).mono ?_
  rintro e wj ⟨rfl, hk⟩
  have HT' := Lib.hid (HT.out.kept hk)
  have HX' := Lib.hid (HX.out.keep hk)
  clear HT HX hk
  have HT := HT'
  have HX := HX'
  clear HT' HX'
  obtain ⟨x0, x1, x2, x3⟩ := HX.out.cells
  dsimp only at x0 x1 x2 x3
  dsimp only [nil0]
  go_wp2_with fail
  refine (tre_drop HT.out (by simp) 2 true (by kernel_rfl)).mono ?_
  rintro e wk ⟨rfl, hT, ho⟩
  rw [show ([(2, 5)] : List (Int × Int)).filter (fun x => !inS 2 2 x) = [] from by decide] at hT
  have HT' := Lib.hid hT
  have HX' := Lib.hid (agat_only HX.out ho (fun h => h (.inr ⟨Nat.le_refl _, HXL.out⟩)))
  clear HT HX hT ho
  have HT := HT'
  have HX := HX'
  clear HT' HX'
  go_wp2_with fail
  refine (tre_drop HT.out (by simp) 2 false (by kernel_rfl)).mono ?_
  rintro e wl ⟨rfl, hT, ho⟩
  have HK := Lib.hid hT.keepW
  clear hT ho HT HX x0 x1 x2 x3
  go_wp2
  go_ret
  exact ⟨rfl, HK.out⟩
end Go.Proofs.Ytopengbflnoneaa
