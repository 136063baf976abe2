/- The walk of FitBits. -/
import Derived.Test.YtoilbmhijjkkaaaDoorFitRef3
import Derived.Test.YtoilbmhijjkkaaaDoorArr
namespace Go.Proofs.YtoilbmhijjkkaaaDoor
open Go.RowKit

theorem and_15 (m : Int) : bits BinOp.and IntKind.i64 m 15 = m % 16 := by
  have := and_mask m 4 (by decide)
  rw [show (twoP 4) = 16 from rfl] at this
  rw [← this]
  rfl
theorem Has.keep {w w' : World} {x : Int} {A : Option Addr} (h : Has w x A) (hk : Keep w w') : Has w' x A := by
  have h1 := Lies.below h hk
  refine ⟨h1.1, fun hn => ?_⟩
  obtain ⟨b, off, e, hB, hc⟩ := h1.2 hn
  exact ⟨b, off, e, Nat.lt_of_lt_of_le hB hk.size, hc⟩

/-- At most m of the places. -/
theorem places_m (x : Int) (m : Int) (w : World) (hx : U64 x) (hm0 : 0 ≤ m) (hm1 : m < 16) (hT : Tab w) :
    Calls Tryd.prog 25 #[.int .u64 x, .int .i64 m] w fun e w' => ∃ A c, e = .returned (.slice A (min m.toNat (pcI x)) c) ∧ Tab w' ∧ Keep w w' := by
  obtain ⟨h0, h1⟩ := id hx
  rcases Int.lt_or_le 0 m with hp | hp
  · have h := places_any x.toNat m.toNat (by omega) (by omega) (by omega) w hT
    rw [show ((x.toNat : Nat) : Int) = x from by omega, show ((m.toNat : Nat) : Int) = m from by omega] at h
    refine h.mono ?_
    rintro e w' ⟨v, rfl, hown, -, hb⟩
    obtain ⟨A, c, rfl, _⟩ := Lies.of_row hown
    exact ⟨A, c, by rw [List.length_take]; rfl, hT.keep hb, hb⟩
  · obtain rfl : m = 0 := by omega
    rw [show min ((0 : Int).toNat) (pcI x) = 0 from by simp]
    clear hm0 hm1 hp
    refine (callsIn_wide (n := 3)).1 ?_
    refine callsIn_of_wp Tryd.func25 rfl trivial ?_ rfl
    simp only [Tryd.ntmps25, List.size_toArray, List.length_cons, List.length_nil, Nat.reduceAdd, Nat.reduceSub, Array.replicate_succ, Array.replicate_zero, List.push_toArray, List.append_toArray, List.nil_append, List.cons_append]
    gi_wp2
    have hk : ∀ o1 o2 o3 o4, Keep w ((((w.alloc o1).alloc o2).alloc o3).alloc o4) := fun o1 o2 o3 o4 => ((((Below.refl _ w).alloc (Nat.le_refl _) _).alloc (by simp) _).alloc (by simp; omega) _).alloc (by simp; omega) _
    exact bodyPost_ret (v := .slice (some ⟨w.heap.size + 1 + 1, 0, none⟩) 0 0) (by simp [results, Tryd.f25, go_sem]) rfl ⟨_, _, rfl, hT.keep (hk _ _ _ _), hk _ _ _ _⟩

set_option maxRecDepth 100000 in
set_option maxHeartbeats 1000000 in
theorem bits_core (n b by0 m : Int) (A : Option Addr) (len cap : Nat) (zs : List Int) (w : World) (hT : Tab w) (un : U64 n) (hm0 : 0 ≤ m) (hm1 : m < 16) (em : bits BinOp.and IntKind.i64 b 15 = m)
    (hlen : len ≤ 200) (hl : Lies w w.heap.size A len (ints zs)) :
    Calls Tryd.prog 4 #[.int .u64 n, .int .i64 b, .int .i64 by0, .slice A len cap] w fun e w' => e = .returned (.bool true) ∧ Keep w w' := by
  obtain ⟨h0, h1⟩ := id un
  have hp := pcI_le n
  have hmax : len ≤ maxLen := by unfold maxLen; omega
  have hpm : pcI n ≤ maxLen := by unfold maxLen; omega
  have HO := Lib.hid (fun w' (hk : Keep w w') => of_any A len cap zs w' w.heap.size hmax (hl.below hk))
  have HR := Lib.hid (fun w' (hk : Keep w w') => rof_any A len cap zs w' w.heap.size hmax (hl.below hk))
  have HS := Lib.hid (fun (A1 A2 : Option Addr) (c1 c2 : Nat) (w' : World) (h : Has w' n A1) (h' : Has w' n A2) => same_any A1 (pcI n) c1 A2 c2 _ w' _ _ hpm h h')
  clear hmax hpm hl
  go_enter Tryd.func4, Tryd.ntmps4
  go_wp2_with (first
    | (go_at_call 9; refine (alive_k _ hT).mono ?_; rintro e w1 ⟨rfl, hT1, hk1⟩)
    | (go_at_call 18; refine (low_i _ _ _).mono ?_; rintro e w' ⟨rfl, rfl⟩)
    | (go_at_call 20; refine (sign_i _ _ _).mono ?_; rintro e w' ⟨rfl, rfl⟩)
    | (go_at_call 22; refine (rot_u _ _ _ un).mono ?_; rintro e w' ⟨rfl, rfl⟩)
    | (go_at_call 19; refine (rlow_any _ _ _ h0 h1).mono ?_; rintro e w' ⟨rfl, rfl⟩)
    | (go_at_call 21; refine (rsign_any _ _ _ h0 h1).mono ?_; rintro e w' ⟨rfl, rfl⟩)
    | (go_at_call 23; refine (rrot_any _ _ _ h0 h1).mono ?_; rintro e w' ⟨rfl, rfl⟩)
    | (go_at_call 17; refine (rplaces_any _ _ h0 h1).mono ?_; rintro e w2 ⟨A2, c2, rfl, hh2, hk2⟩))
  have hT2 := hT1.keep hk2
  refine (places_k n w2 un hT2).mono ?_
  rintro e w3 ⟨A3, c3, rfl, hh3, hT3, hk3⟩
  have hh23 := hh2.keep hk3
  clear hh2
  go_wp2_with fail
  refine (HS.out A3 A2 _ _ _ hh3 hh23).mono ?_
  rintro e w4 ⟨rfl, hk4⟩
  have hT4 := hT3.keep hk4
  clear hh3 hh23 hT1 hT2 hT3
  go_wp2_with fail
  refine (places_m n m w4 un hm0 hm1 hT4).mono ?_
  rintro e w5 ⟨A5, c5, rfl, hT5, hk5⟩
  have hk15 : Keep w w5 := (((hk1.trans hk2).trans hk3).trans hk4).trans hk5
  clear hk1 hk2 hk3 hk4 hk5 HS
  go_wp2_with (first
    | (go_at_call 26; refine (HO.out _ hk15).mono ?_; rintro e w' ⟨rfl, rfl⟩)
    | (go_at_call 27; refine (HR.out _ hk15).mono ?_; rintro e w' ⟨rfl, rfl⟩))
  all_goals go_ret
  all_goals exact ⟨rfl, hk15⟩

theorem bits_long (n b by0 : Int) (A : Option Addr) (len cap : Nat) (w : World) (hT : Tab w) (hlen : 200 < len) (hmax : len ≤ maxLen) :
    Calls Tryd.prog 4 #[.int .u64 n, .int .i64 b, .int .i64 by0, .slice A len cap] w fun e w' => e = .returned (.bool true) ∧ Keep w w' := by
  unfold maxLen at hmax
  go_enter Tryd.func4, Tryd.ntmps4
  go_wp2_with (go_at_call 9; refine (alive_k _ hT).mono ?_; rintro e w1 ⟨rfl, hT1, hk1⟩)
  go_ret
  exact ⟨rfl, hk1⟩

theorem FitBits_std (a0 : Int) (w0 : (Lit.int .u64 a0).wf = true) (a1 : Int) (_w1 : (Lit.int .i64 a1).wf = true) (a2 : Int) (_w2 : (Lit.int .i64 a2).wf = true)
    (a3 : Option Addr) (len3 cap3 : Nat) (z3 : List Int) (w : World) (hr : Arr .i64 w a3 len3 z3) (hT : Tab w) :
    Calls Tryd.prog 4 #[.int .u64 a0, .int .i64 a1, .int .i64 a2, .slice a3 len3 cap3] w fun e w' => e = .returned (.bool true) ∧ Below w.heap.size w w' := by
  have h := bounds_u64 w0
  by_cases hl : len3 ≤ 200
  · exact bits_core a0 a1 a2 (a1 % 16) a3 len3 cap3 z3 w hT ⟨by omega, by omega⟩ (by omega) (by omega) (and_15 a1) hl hr.2.1
  · exact bits_long a0 a1 a2 a3 len3 cap3 w hT (by omega) hr.1
end Go.Proofs.YtoilbmhijjkkaaaDoor
