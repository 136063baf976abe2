/- segtree's small functions. -/
import Derived.Test.YtopengbflnoneaaSegMath
import Derived.Test.YtopengbflnoneaaArnFn
namespace Go.Proofs.Ytopengbflnoneaa
open Go.RowKit

theorem every_is (w : World) : Calls Try.prog 33 #[] w fun e w' => e = .returned (.agg #[.int .u32 0, .int .u32 4294967295]) ∧ Keep w w' := by
  go_enter Try.func33, Try.ntmps33
  go_wp2
  exact bodyPost_ret (v := .agg #[.int .u32 0, .int .u32 4294967295]) (by simp [results, Try.results33, go_sem]) rfl ⟨rfl, (Keep.refl w).alloc _⟩
theorem single_is (lo hi : Int) (v : Bool) (w : World) (hv : (lo == hi) = v) : Calls Try.prog 49 #[.agg #[.int .u32 lo, .int .u32 hi]] w fun e w' => e = .returned (.bool v) ∧ Keep w w' := by
  have HV := Lib.hid hv
  clear hv
  go_enter Try.func49, Try.ntmps49
  go_wp2
  go_ret
  exact ⟨by rw [← HV.out]; rfl, (Keep.refl w).alloc _⟩
theorem apart_is (lo hi a b : Int) (v : Bool) (w : World) (hv : decide (b < a ∨ hi < a ∨ b < lo) = v) : Calls Try.prog 56 #[.agg #[.int .u32 lo, .int .u32 hi], .agg #[.int .u32 a, .int .u32 b]] w fun e w' => e = .returned (.bool v) ∧ Keep w w' := by
  have HV := Lib.hid hv
  clear hv
  by_cases h1 : b < a
  · go_enter Try.func56, Try.ntmps56
    go_wp2
    go_ret
    exact ⟨by rw [← HV.out]; simp [h1], ((Keep.refl w).alloc _).alloc _⟩
  · have h1' : a ≤ b := by omega
    by_cases h2 : hi < a
    · clear h1
      go_enter Try.func56, Try.ntmps56
      go_wp2
      go_ret
      exact ⟨by rw [← HV.out]; simp [h2], ((Keep.refl w).alloc _).alloc _⟩
    · have h2' : a ≤ hi := by omega
      clear h1 h2
      go_enter Try.func56, Try.ntmps56
      go_wp2
      go_ret
      exact ⟨by rw [← HV.out, Bool.decide_or, Bool.decide_or, ← Bool.or_assoc]; rfl, ((Keep.refl w).alloc _).alloc _⟩
theorem within_is (lo hi a b : Int) (v : Bool) (w : World) (hv : decide (a ≤ lo ∧ hi ≤ b) = v) : Calls Try.prog 57 #[.agg #[.int .u32 lo, .int .u32 hi], .agg #[.int .u32 a, .int .u32 b]] w fun e w' => e = .returned (.bool v) ∧ Keep w w' := by
  have HV := Lib.hid hv
  clear hv
  by_cases h1 : a ≤ lo
  · have e : v = decide (hi ≤ b) := by rw [← HV.out]; simp [h1]
    have HE := Lib.hid e
    clear e
    go_enter Try.func57, Try.ntmps57
    go_wp2
    go_ret
    exact ⟨by rw [HE.out]; rfl, ((Keep.refl w).alloc _).alloc _⟩
  · have h1' : lo < a := by omega
    have e : v = false := by rw [← HV.out]; simp [h1]
    have HE := Lib.hid e
    clear e h1
    go_enter Try.func57, Try.ntmps57
    go_wp2
    go_ret
    exact ⟨by rw [HE.out]; rfl, ((Keep.refl w).alloc _).alloc _⟩
theorem killed_is (z : Nd) (w : World) : Calls Try.prog 58 #[.agg #[.int .i32 z.l, .int .i32 z.r, .int .i64 z.c, .int .i64 z.s, .int .i64 z.mn, .int .i64 z.mx, .bool z.k]] w fun e w' => e = .returned (.agg #[.int .i32 (ndOf z.l z.r nil0 true).l, .int .i32 (ndOf z.l z.r nil0 true).r, .int .i64 (ndOf z.l z.r nil0 true).c, .int .i64 (ndOf z.l z.r nil0 true).s, .int .i64 (ndOf z.l z.r nil0 true).mn, .int .i64 (ndOf z.l z.r nil0 true).mx, .bool (ndOf z.l z.r nil0 true).k]) ∧ Keep w w' := by
  go_enter Try.func58, Try.ntmps58
  go_wp2
  exact bodyPost_ret (v := .agg #[.int .i32 z.l, .int .i32 z.r, .int .i64 0, .int .i64 0, .int .i64 0, .int .i64 0, .bool true]) (by simp [results, Try.results58, go_sem]) rfl ⟨rfl, ((Keep.refl w).alloc _).alloc _⟩
theorem halves_is (lo hi mid : Int) (w : World) (h0 : 0 ≤ lo) (h1 : lo < hi) (h2 : hi ≤ 4294967295) (hm : lo + (hi - lo) / 2 = mid) :
    Calls Try.prog 53 #[.agg #[.int .u32 lo, .int .u32 hi]] w fun e w' => e = .returned (.tuple #[.agg #[.int .u32 lo, .int .u32 mid], .agg #[.int .u32 (mid + 1), .int .u32 hi]]) ∧ Keep w w' := by
  have hd0 : 0 ≤ hi - lo := by omega
  have hd1 : 0 ≤ (hi - lo) / 2 := by omega
  have hd2 : lo + (hi - lo) / 2 ≤ 4294967295 := by omega
  have hd3 : (mid + 1) % 4294967296 = mid + 1 := by omega
  go_enter Try.func53, Try.ntmps53
  go_wp2_with fail
  go_region
  go_wp2
  exact bodyPost_ret (v := .tuple #[.agg #[.int .u32 lo, .int .u32 mid], .agg #[.int .u32 (mid + 1), .int .u32 hi]]) (by simp [results, Try.results53, go_sem]) rfl ⟨rfl, (((Keep.refl w).alloc _).alloc _).alloc _ |>.drew⟩
section
variable {b lim : Nat} {A : Option Addr} {c : Nat} {xs : List Nd} {w : World}
set_option maxHeartbeats 1000000 in
/-- node is what Get tells, without the error. -/
theorem node_get (i ev : Int) (z : Nd) (h : ∀ W, Keep w W → Calls Try.prog 47 #[.pointer (some ⟨b, 0, none⟩), .int .i32 i] W fun e w' => e = .returned (.tuple #[.agg #[.int .i32 z.l, .int .i32 z.r, .int .i64 z.c, .int .i64 z.s, .int .i64 z.mn, .int .i64 z.mx, .bool z.k], .int .i64 ev]) ∧ Keep W w') :
    Calls Try.prog 55 #[.pointer (some ⟨b, 0, none⟩), .int .i32 i] w fun e w' => e = .returned (.agg #[.int .i32 z.l, .int .i32 z.r, .int .i64 z.c, .int .i64 z.s, .int .i64 z.mn, .int .i64 z.mx, .bool z.k]) ∧ Keep w w' := by
  have HG := Lib.hid (h _ ((Keep.refl w).alloc (.cells #[.int .i32 0, .int .i32 0, .int .i64 0, .int .i64 0, .int .i64 0, .int .i64 0, .bool false] 96)))
  have HN := Lib.hid (show NdAt (w.alloc (.cells #[.int .i32 0, .int .i32 0, .int .i64 0, .int .i64 0, .int .i64 0, .int .i64 0, .bool false] 96)) w.heap.size Nd.zero from NdAt.new w Nd.zero)
  have HK := Lib.hid ((Keep.refl w).alloc (.cells #[.int .i32 0, .int .i32 0, .int .i64 0, .int .i64 0, .int .i64 0, .int .i64 0, .bool false] 96))
  clear h
  go_enter Try.func55, Try.ntmps55
  go_wp2_with fail
  generalize w.alloc (.cells #[.int .i32 0, .int .i32 0, .int .i64 0, .int .i64 0, .int .i64 0, .int .i64 0, .bool false] 96) = W0 at *
  refine HG.out.mono ?_
  rintro e w1 ⟨rfl, hk1⟩
  have hN1 := HN.out.keep hk1
  obtain ⟨f0, f1, f2, f3, f4, f5, f6⟩ := hN1.free
  obtain ⟨c0, c1, c2, c3, c4, c5, c6⟩ := hN1.cells0
  have hlt := hN1.lt
  have HN1 := Lib.hid hN1
  have HK1 := Lib.hid (HK.out.trans hk1)
  clear hk1 hN1 HG HN HK
  go_wp2
  have hF : NdAt ((((((((w1.setCell ⟨w.heap.size, 0, none⟩ (.int .i32 z.l)).setCell ⟨w.heap.size, 1, none⟩ (.int .i32 z.r)).setCell ⟨w.heap.size, 2, none⟩ (.int .i64 z.c)).setCell ⟨w.heap.size, 3, none⟩ (.int .i64 z.s)).setCell ⟨w.heap.size, 4, none⟩ (.int .i64 z.mn)).setCell ⟨w.heap.size, 5, none⟩ (.int .i64 z.mx)).setCell ⟨w.heap.size, 6, none⟩ (.bool z.k)).alloc (.cells #[.int .i32 z.l, .int .i32 z.r, .int .i64 z.c, .int .i64 z.s, .int .i64 z.mn, .int .i64 z.mx, .bool z.k] 96)) w.heap.size z := (HN1.out.stored z).keep ((Keep.refl _).alloc _)
  have hkF : Keep w ((((((((w1.setCell ⟨w.heap.size, 0, none⟩ (.int .i32 z.l)).setCell ⟨w.heap.size, 1, none⟩ (.int .i32 z.r)).setCell ⟨w.heap.size, 2, none⟩ (.int .i64 z.c)).setCell ⟨w.heap.size, 3, none⟩ (.int .i64 z.s)).setCell ⟨w.heap.size, 4, none⟩ (.int .i64 z.mn)).setCell ⟨w.heap.size, 5, none⟩ (.int .i64 z.mx)).setCell ⟨w.heap.size, 6, none⟩ (.bool z.k)).alloc (.cells #[.int .i32 z.l, .int .i32 z.r, .int .i64 z.c, .int .i64 z.s, .int .i64 z.mn, .int .i64 z.mx, .bool z.k] 96)) := (set7_keep HK1.out (Nat.le_refl _) z).alloc _
  generalize (((((((w1.setCell ⟨w.heap.size, 0, none⟩ (.int .i32 z.l)).setCell ⟨w.heap.size, 1, none⟩ (.int .i32 z.r)).setCell ⟨w.heap.size, 2, none⟩ (.int .i64 z.c)).setCell ⟨w.heap.size, 3, none⟩ (.int .i64 z.s)).setCell ⟨w.heap.size, 4, none⟩ (.int .i64 z.mn)).setCell ⟨w.heap.size, 5, none⟩ (.int .i64 z.mx)).setCell ⟨w.heap.size, 6, none⟩ (.bool z.k)).alloc (.cells #[.int .i32 z.l, .int .i32 z.r, .int .i64 z.c, .int .i64 z.s, .int .i64 z.mn, .int .i64 z.mx, .bool z.k] 96) = WF at *
  obtain ⟨d0, d1, d2, d3, d4, d5, d6⟩ := hF.cells
  exact bodyPost_ret (v := .agg #[.int .i32 z.l, .int .i32 z.r, .int .i64 z.c, .int .i64 z.s, .int .i64 z.mn, .int .i64 z.mx, .bool z.k]) (by simp [results, Try.results55, go_sem, d0, d1, d2, d3, d4, d5, d6]) rfl ⟨rfl, hkF⟩
theorem node_no (i : Int) (h : Ar w b lim A c xs) (hi : -2147483648 ≤ i ∧ i ≤ 2147483647) (hn : ¬ (1 ≤ i ∧ i ≤ (xs.length : Int))) :
    Calls Try.prog 55 #[.pointer (some ⟨b, 0, none⟩), .int .i32 i] w fun e w' => e = .returned (.agg #[.int .i32 Nd.zero.l, .int .i32 Nd.zero.r, .int .i64 Nd.zero.c, .int .i64 Nd.zero.s, .int .i64 Nd.zero.mn, .int .i64 Nd.zero.mx, .bool Nd.zero.k]) ∧ Keep w w' :=
  node_get i 4 Nd.zero fun _ hk => get_no i (h.keep hk) hi hn
theorem node_yes (j : Nat) (z : Nd) (h : Ar w b lim A c xs) (hj : xs[j]? = some z) :
    Calls Try.prog 55 #[.pointer (some ⟨b, 0, none⟩), .int .i32 ((j : Int) + 1)] w fun e w' => e = .returned (.agg #[.int .i32 z.l, .int .i32 z.r, .int .i64 z.c, .int .i64 z.s, .int .i64 z.mn, .int .i64 z.mx, .bool z.k]) ∧ Keep w w' :=
  node_get _ 0 z fun _ hk => get_yes j z (h.keep hk) hj
end
end Go.Proofs.Ytopengbflnoneaa
