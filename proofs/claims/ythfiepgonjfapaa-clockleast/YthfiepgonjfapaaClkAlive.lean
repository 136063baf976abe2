/- The example of clock's laws. -/
import Derived.Test.YthfiepgonjfapaaClkFn
namespace Go.Proofs.Ythfiepgonjfapaa
open Go.RowKit

theorem tick_of (b : Nat) (c n d : Int) (w : World) (h : Clk w b c) (h0 : 0 ≤ c) (h1 : c ≤ 1125899906842624) (hn : inI n) (hd : later c n = d) :
    Calls Try.prog 11 #[.pointer (some ⟨b, 0, none⟩), .int .i64 n] w fun e w' => e = .returned (.int .i64 d) ∧ Clk w' b d ∧ Only (fun k => k = b) w w' := hd ▸ tick_is b c n w h h0 h1 hn
theorem after_of (b : Nat) (c n d : Int) (w : World) (h : Clk w b c) (h0 : 0 ≤ c) (h1 : c ≤ 1125899906842624) (hn : inI n) (hd : later c n = d) :
    Calls Try.prog 10 #[.pointer (some ⟨b, 0, none⟩), .int .i64 n] w fun e w' => e = .returned (.int .i64 d) ∧ w = w' := hd ▸ after_is b c n w h h0 h1 hn
theorem least_of (A : Option Addr) (n c : Nat) (zs : List Int) (m : Int) (w : World) (h : Lies w w.heap.size A n (vals .i64 zs)) (hn : n ≤ 1000000) (hm : least zs = m) :
    Calls Try.prog 14 #[.slice A n c] w fun e w' => e = .returned (.int .i64 m) ∧ w = w' := hm ▸ least_is A n c zs w h hn
theorem three_lies (w : World) (x y z : Int) : Lies (w.alloc (.cells #[.int .i64 x, .int .i64 y, .int .i64 z] 2)) (w.alloc (.cells #[.int .i64 x, .int .i64 y, .int .i64 z] 2)).heap.size (some ⟨w.heap.size, 0, none⟩) 3 (vals .i64 [x, y, z]) := by
  refine ⟨rfl, fun _ => ⟨w.heap.size, 0, rfl, by simp, fun k hk => ?_⟩⟩
  have hb := World.alloc_heap_new w (.cells #[.int .i64 x, .int .i64 y, .int .i64 z] 2)
  rcases (show k = 0 ∨ k = 1 ∨ k = 2 by omega) with rfl | rfl | rfl <;> simp only [World.cell?, Nat.zero_add, hb] <;> rfl

set_option maxRecDepth 100000 in
set_option maxHeartbeats 4000000 in
theorem alive_any (w : World) :
    Calls Try.prog 8 #[] w fun e w' => e = .returned (.bool true) ∧ Keep w w' := by
  have h0 := Clk.new w 0
  have H0 := Lib.hid h0
  have HK := Lib.hid ((Keep.refl w).alloc (.cells #[.int .i64 0] 25))
  have hB : w.heap.size ≤ w.heap.size := Nat.le_refl _
  clear h0
  generalize hb : w.heap.size = b at *
  go_enter Try.func8, Try.ntmps8
  go_wp2_with fail
  generalize w.alloc (.cells #[.int .i64 0] 25) = W0 at *
  refine (tick_of b 0 5 5 W0 H0.out (by decide) (by decide) ⟨by decide, by decide⟩ (by decide)).mono ?_
  rintro e w1 ⟨rfl, h1, o1⟩
  have H1 := Lib.hid h1
  have O1 := Lib.hid o1
  clear h1 o1
  go_wp2_with fail
  refine (tick_of b 5 (-3) 5 w1 H1.out (by decide) (by decide) ⟨by decide, by decide⟩ (by decide)).mono ?_
  rintro e w2 ⟨rfl, h2, o2⟩
  have H2 := Lib.hid h2
  have O2 := Lib.hid o2
  clear h2 o2
  go_wp2_with fail
  refine (now_is b 5 w2 H2.out).mono ?_
  rintro e w3 ⟨rfl, rfl⟩
  go_wp2_with fail
  refine (after_of b 5 2 7 w2 H2.out (by decide) (by decide) ⟨by decide, by decide⟩ (by decide)).mono ?_
  rintro e w3 ⟨rfl, rfl⟩
  go_wp2_with fail
  refine (past_is b 5 5 true w2 H2.out (by decide)).mono ?_
  rintro e w3 ⟨rfl, rfl⟩
  go_wp2_with fail
  refine (past_is b 5 6 false w2 H2.out (by decide)).mono ?_
  rintro e w3 ⟨rfl, rfl⟩
  have HL := Lib.hid (three_lies w2 0 9 4)
  have HK2 := Lib.hid ((Only.keep HK.out (O1.out.trans O2.out (fun k _ h => h)) (fun k hk => by rw [hk, hb]; exact Nat.le_refl _)).alloc (.cells #[.int .i64 0, .int .i64 9, .int .i64 4] 2))
  clear H0 H1 O1 O2 HK H2
  go_wp2_with fail
  generalize w2.alloc (.cells #[.int .i64 0, .int .i64 9, .int .i64 4] 2) = W3 at *
  refine (least_of _ 3 3 [0, 9, 4] 4 W3 HL.out (by decide) (by decide)).mono ?_
  rintro e w3 ⟨rfl, rfl⟩
  go_wp2_with fail
  refine (least_of none 0 0 [] 0 W3 (Lies.nil _ _ _) (by decide) (by decide)).mono ?_
  rintro e w3 ⟨rfl, rfl⟩
  go_wp2
  go_ret
  exact ⟨rfl, HK2.out⟩
end Go.Proofs.Ythfiepgonjfapaa
