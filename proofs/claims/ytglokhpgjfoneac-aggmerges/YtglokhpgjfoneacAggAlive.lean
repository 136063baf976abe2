/- The example of agg's laws. -/
import Derived.Test.YtglokhpgjfoneacAggEq
import Derived.Test.YtglokhpgjfoneacSeq
namespace Go.Proofs.Ytglokhpgjfoneac
open Go.RowKit

theorem of34 : ofL [3, -4] = ⟨2, -1, -4, 3⟩ := by simp [ofL, mrg, both, one1, nil0, wrap64]; omega
theorem ok34 : Ag.ok ⟨2, -1, -4, 3⟩ := ⟨⟨by decide, by decide⟩, ⟨by decide, by decide⟩, ⟨by decide, by decide⟩, ⟨by decide, by decide⟩⟩
theorem avg34 : avg ⟨2, -1, -4, 3⟩ = -1 := by simp [avg]
theorem two_lies (w : World) (x y : Int) : Lies (w.alloc (.cells #[.int .i64 x, .int .i64 y] 2)) (w.alloc (.cells #[.int .i64 x, .int .i64 y] 2)).heap.size (some ⟨w.heap.size, 0, none⟩) 2 (vals .i64 [x, y]) := by
  have h : (w.alloc (.cells #[.int .i64 x, .int .i64 y] 2)).heap[w.heap.size]? = some (.cells #[.int .i64 x, .int .i64 y] 2 (0, 0)) := World.alloc_heap_new _ _
  have hlt : w.heap.size < (w.alloc (.cells #[.int .i64 x, .int .i64 y] 2)).heap.size := by simp
  generalize w.alloc (.cells #[.int .i64 x, .int .i64 y] 2) = W at *
  refine ⟨rfl, fun _ => ⟨w.heap.size, 0, rfl, hlt, fun k hk => ?_⟩⟩
  rcases (show k = 0 ∨ k = 1 by omega) with rfl | rfl <;> simp [World.cell?, h, vals]
theorem c_of (w : World) : Calls Try.prog 13 #[.slice (some ⟨w.heap.size, 0, none⟩) 2 2] (w.alloc (.cells #[.int .i64 3, .int .i64 (-4)] 2)) fun e w' => e = .returned (.agg #[.int .i64 2, .int .i64 (-1), .int .i64 (-4), .int .i64 3]) ∧ Keep (w.alloc (.cells #[.int .i64 3, .int .i64 (-4)] 2)) w' := by
  have := of_any (some ⟨w.heap.size, 0, none⟩) 2 2 [3, -4] _ (two_lies w 3 (-4)) (by decide)
  rwa [of34] at this
theorem c_avg (w : World) : Calls Try.prog 9 #[.agg #[.int .i64 2, .int .i64 (-1), .int .i64 (-4), .int .i64 3]] w fun e w' => e = .returned (.tuple #[.int .i64 (-1), .bool true]) ∧ Keep w w' := by
  have := avg_any ⟨2, -1, -4, 3⟩ w ok34 true rfl
  rwa [avg34] at this
theorem c_pick4 (w : World) : Calls Try.prog 11 #[.agg #[.int .i64 2, .int .i64 (-1), .int .i64 (-4), .int .i64 3], .int .i64 4] w fun e w' => e = .returned (.tuple #[.int .i64 3, .bool true]) ∧ Keep w w' := pick_any ⟨2, -1, -4, 3⟩ 4 w ok34
theorem c_pick3 (w : World) : Calls Try.prog 11 #[.agg #[.int .i64 0, .int .i64 0, .int .i64 0, .int .i64 0], .int .i64 3] w fun e w' => e = .returned (.tuple #[.int .i64 0, .bool false]) ∧ Keep w w' := pick_any nil0 3 w nil0_ok
theorem c_one3 (w : World) : Calls Try.prog 17 #[.int .i64 3] w fun e w' => e = .returned (.agg #[.int .i64 1, .int .i64 3, .int .i64 3, .int .i64 3]) ∧ Keep w w' := one_any 3 w
theorem c_one4 (w : World) : Calls Try.prog 17 #[.int .i64 (-4)] w fun e w' => e = .returned (.agg #[.int .i64 1, .int .i64 (-4), .int .i64 (-4), .int .i64 (-4)]) ∧ Keep w w' := one_any (-4) w
theorem c_merge (w : World) : Calls Try.prog 15 #[.agg #[.int .i64 1, .int .i64 3, .int .i64 3, .int .i64 3], .agg #[.int .i64 1, .int .i64 (-4), .int .i64 (-4), .int .i64 (-4)]] w fun e w' => e = .returned (.agg #[.int .i64 2, .int .i64 (-1), .int .i64 (-4), .int .i64 3]) ∧ Keep w w' := by
  have := merge_any (one1 3) (one1 (-4)) w
  rwa [show mrg (one1 3) (one1 (-4)) = ⟨2, -1, -4, 3⟩ by simp [mrg, both, one1, wrap64]; omega] at this

set_option maxRecDepth 100000 in
set_option maxHeartbeats 4000000 in
theorem alive_any (w : World) :
    Calls Try.prog 8 #[] w fun e w' => e = .returned (.bool true) ∧ Keep w w' := by
  have hk0 := (Keep.refl w).alloc (.cells #[.int .i64 3, .int .i64 (-4)] 2)
  go_enter Try.func8, Try.ntmps8
  go_wp2_with fail
  go_at_call 13
  refine (c_of w).mono ?_
  rintro e w1 ⟨rfl, hk1⟩
  have HN := Lib.hid (AgAt.new w1 ⟨2, -1, -4, 3⟩)
  have hK := (hk0.trans hk1).alloc (.cells #[.int .i64 2, .int .i64 (-1), .int .i64 (-4), .int .i64 3] 24)
  clear hk0 hk1
  go_wp2_with fail
  go_at_call 9
  generalize w1.alloc (.cells #[.int .i64 2, .int .i64 (-1), .int .i64 (-4), .int .i64 3] 24) = W1 at *
  refine (c_avg _).mono ?_
  rintro e w2 ⟨rfl, hk2⟩
  obtain ⟨a0, a1, a2, a3⟩ := (HN.out.keep hk2).cells
  dsimp only at a0 a1 a2 a3
  go_wp2_with fail
  go_at_call 11
  refine (c_pick4 _).mono ?_
  rintro e w3 ⟨rfl, hk3⟩
  replace hk3 := hk2.trans hk3
  clear a0 a1 a2 a3 hk2
  go_wp2_with fail
  go_at_call 11
  refine (c_pick3 _).mono ?_
  rintro e w4 ⟨rfl, hk4⟩
  replace hk4 := hk3.trans hk4
  clear hk3
  go_wp2_with fail
  have hN := HN.out.keep hk4
  have q1 := equal_ag
  have HS := Lib.hid (show ∀ w', Keep w4 w' → Keep w4 w' ∧ ((w'.cell? ⟨w1.heap.size, 0, none⟩ = some (.int .i64 2) ∧ w'.cell? ⟨w1.heap.size, 1, none⟩ = some (.int .i64 (-1)) ∧ w'.cell? ⟨w1.heap.size, 2, none⟩ = some (.int .i64 (-4)) ∧ w'.cell? ⟨w1.heap.size, 3, none⟩ = some (.int .i64 3))) from
    fun w' h => ⟨h, (hN.keep h).cells⟩)
  have hKc := (Keep.refl w4).drew
  refine seq_region (S := fun w' => Keep w4 w' ∧ ((w'.cell? ⟨w1.heap.size, 0, none⟩ = some (.int .i64 2) ∧ w'.cell? ⟨w1.heap.size, 1, none⟩ = some (.int .i64 (-1)) ∧ w'.cell? ⟨w1.heap.size, 2, none⟩ = some (.int .i64 (-4)) ∧ w'.cell? ⟨w1.heap.size, 3, none⟩ = some (.int .i64 3)))) [⟨0, 2, 33554432⟩, ⟨0, 0, 67108864⟩, ⟨3, 100663296, 134217728⟩, ⟨4, 134217728, 268435456⟩, ⟨8, 268435460, 536870912⟩, ⟨24, 805306368, 1073741824⟩, ⟨40, 1342177280, 2147483648⟩, ⟨72, 2147483648, 4294967296⟩, ⟨128, 4294967304, 8589934592⟩, ⟨384, 12884901888, 17179869184⟩, ⟨640, 17179869184, 34359738368⟩, ⟨1024, 34359738384, 68719476736⟩, ⟨3072, 103079215104, 137438953472⟩, ⟨5120, 171798691840, 274877906944⟩, ⟨9216, 274877906944, 549755813888⟩, ⟨16384, 549755813920, 1099511627776⟩, ⟨49152, 1649267441664, 2199023255552⟩, ⟨81920, 2199023255552, 4398046511104⟩, ⟨131072, 4398046511232, 8796093022208⟩, ⟨393216, 13194139533312, 17592186044416⟩, ⟨655360, 21990232555520, 35184372088832⟩, ⟨1179648, 35184372088832, 70368744177664⟩, ⟨2097152, 70368744177664, 140737488355328⟩, ⟨6291456, 70368744177664, 281474976710656⟩, ⟨14680064, 492581209243648, 562949953421312⟩, ⟨2097152, 70368744177666, 1125899906842624⟩, ⟨52428800, 1759218604441600, 2251799813685248⟩, ⟨69206016, 2322168557862912, 4503599627370496⟩, ⟨268435455, 4503599627370496, 1⟩] [(0, false), (1, false), (2, false), (3, false), (4, false), (5, false), (6, false), (7, false), (8, false), (9, false), (10, false), (11, false), (12, false), (13, false), (14, false), (15, false), (16, false), (17, false), (18, false), (19, false), (20, false), (21, false), (25, false), (22, true), (23, true), (24, true), (26, false), (27, false), (28, false)] rfl (by kernel_rfl) (by kernel_rfl) (fun _ _ d _ _ h => by cases d <;> exact h) (HS.out _ hKc) ?_
  simp only [rowsOf, rowAt, gslot, List.map_cons, List.map_nil, List.getElem?_toArray, List.getElem?_cons_zero, List.getElem?_cons_succ, Option.bind_some]
  repeat (first
    | (refine seq_take (v := ?_) (a' := ?_) (by rfl) ?_ ?_ ?_
       rotate_left 2
       · (intro w hSw; obtain ⟨-, hSw⟩ := hSw; go_split_ands; go_simp; with_reducible rfl)
       · (simp only [Act.put, List.setIfInBounds_toArray, List.set_cons_zero, List.set_cons_succ]; with_reducible rfl))
    | (refine seq_callv (f := 17) (args := ?_) (v := ?_) (a' := ?_) (by rfl) (by rfl) (by rfl) Try.call17 ?_ ?_ ?_ ?_
       rotate_left 3
       · (go_simp; with_reducible rfl)
       · ((first
           | (with_reducible refine (c_one3 _).mono ?_)
           | (with_reducible refine (c_one4 _).mono ?_))
          rintro e w' ⟨rfl, hk⟩
          refine ⟨?_, HS.out _ (hKc.trans hk)⟩
          with_reducible rfl)
       · (simp only [Act.put, List.setIfInBounds_toArray, List.set_cons_zero, List.set_cons_succ]; with_reducible rfl)
       clear hKc
       intro w2 hw2
       have hKc := hw2.1
       clear hw2)
    | (refine seq_callv (f := 15) (args := ?_) (v := ?_) (a' := ?_) (by rfl) (by rfl) (by rfl) Try.call15 ?_ ?_ ?_ ?_
       rotate_left 3
       · (go_simp; with_reducible rfl)
       · ((with_reducible refine (c_merge _).mono ?_)
          rintro e w' ⟨rfl, hk⟩
          refine ⟨?_, HS.out _ (hKc.trans hk)⟩
          with_reducible rfl)
       · (simp only [Act.put, List.setIfInBounds_toArray, List.set_cons_zero, List.set_cons_succ]; with_reducible rfl)
       clear hKc
       intro w2 hw2
       have hKc := hw2.1
       clear hw2)
    | (refine seq_skip (a' := ?_) (HS.out _ hKc) (by rfl) ?_ ?_
       rotate_left
       · (simp only [Act.put, List.setIfInBounds_toArray, List.set_cons_zero, List.set_cons_succ]; with_reducible rfl)))
  refine seq_nil ?_
  go_wp2
  go_ret
  exact ⟨rfl, hK.trans (hk4.trans hKc)⟩
end Go.Proofs.Ytglokhpgjfoneac
