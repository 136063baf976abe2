/- The example of arena's laws. -/
import Derived.Test.YtdnhgfbchddababArnMy
import Derived.Test.YtdnhgfbchddababArnNodes
namespace Go.Proofs.Ytdnhgfbchddabab
open Go.RowKit

theorem my_nodes {w0 w : World} {b lim : Nat} {xs : List Nd} {Pr : Nat → Prop} (m : Nat) (ys : List Nd) (h : My w0 b lim xs Pr w) (hm : m ≤ 9223372036854775807) (hy : xs.take m = ys) :
    Calls Try.prog 18 #[.pointer (some ⟨b, 0, none⟩), .int .i64 m] w (NodesPost w ys) := by
  obtain ⟨A, c, h1, _⟩ := h
  subst hy
  exact nodes_any b lim A c xs m w h1 hm
def Nd.seven : Nd := ⟨7, 0, 0, 0, 0, 0, false⟩
section
variable {w0 w : World} {b : Nat} {Pr : Nat → Prop}
theorem a_new (w : World) : Calls Try.prog 9 #[.int .i64 1] w fun e w' => e = .returned (.tuple #[.pointer (some ⟨w.heap.size, 0, none⟩), .int .i64 0]) ∧ My w w.heap.size 1 [] (fun _ => False) w' := my_new 1 w (by decide) (by decide)
theorem a_alloc (h : My w0 b 1 [] Pr w) : Calls Try.prog 10 #[.pointer (some ⟨b, 0, none⟩)] w fun e w' => e = .returned (.tuple #[.int .i32 1, .int .i64 0]) ∧ My w0 b 1 [Nd.zero] Pr w' :=
  (my_alloc h (by decide)).mono fun _ _ ⟨h1, h2, _⟩ => ⟨h1, h2⟩
theorem a_full (h : My w0 b 1 [Nd.zero] Pr w) : Calls Try.prog 10 #[.pointer (some ⟨b, 0, none⟩)] w fun e w' => e = .returned (.tuple #[.int .i32 0, .int .i64 6]) ∧ Keep w w' := my_full h rfl
theorem a_set (h : My w0 b 1 [Nd.zero] Pr w) : Calls Try.prog 12 #[.pointer (some ⟨b, 0, none⟩), .int .i32 1, .agg #[.int .i32 7, .int .i32 0, .int .i64 0, .int .i64 0, .int .i64 0, .int .i64 0, .bool false]] w fun e w' => e = .returned (.int .i64 0) ∧ My w0 b 1 [Nd.seven] Pr w' :=
  (my_set 0 Nd.seven h (by decide)).mono fun _ _ ⟨h1, h2, _⟩ => ⟨h1, h2⟩
theorem a_get (h : My w0 b 1 [Nd.seven] Pr w) : Calls Try.prog 14 #[.pointer (some ⟨b, 0, none⟩), .int .i32 1] w fun e w' => e = .returned (.tuple #[.agg #[.int .i32 7, .int .i32 0, .int .i64 0, .int .i64 0, .int .i64 0, .int .i64 0, .bool false], .int .i64 0]) ∧ Keep w w' := my_get 0 Nd.seven h rfl
theorem a_getno (h : My w0 b 1 [Nd.seven] Pr w) : Calls Try.prog 14 #[.pointer (some ⟨b, 0, none⟩), .int .i32 2] w fun e w' => e = .returned (.tuple #[.agg #[.int .i32 0, .int .i32 0, .int .i64 0, .int .i64 0, .int .i64 0, .int .i64 0, .bool false], .int .i64 4]) ∧ Keep w w' := my_getno 2 h (by decide) (by simp)
theorem a_no (w : World) : Calls Try.prog 9 #[.int .i64 0] w fun e w' => e = .returned (.tuple #[.pointer none, .int .i64 1]) ∧ w = w' := new_no 0 w (by decide)
theorem a_nodes (h : My w0 b 1 [Nd.seven] Pr w) : Calls Try.prog 18 #[.pointer (some ⟨b, 0, none⟩), .int .i64 9] w fun e w' => ∃ A c, e = .returned (.tuple #[.slice A 1 c, .bool true]) ∧ Keep w w' :=
  (my_nodes 9 [Nd.seven] h (by decide) rfl).mono fun _ _ ⟨A, c, h1, _, h3⟩ => ⟨A, c, h1, h3⟩
theorem a_len (h : My w0 b 1 [Nd.seven] Pr w) : Calls Try.prog 16 #[.pointer (some ⟨b, 0, none⟩)] w fun e w' => e = .returned (.int .i64 1) ∧ w = w' := my_len h
theorem a_room (h : My w0 b 1 [Nd.seven] Pr w) : Calls Try.prog 17 #[.pointer (some ⟨b, 0, none⟩)] w fun e w' => e = .returned (.int .i64 0) ∧ Keep w w' := my_room h
end

set_option maxRecDepth 100000 in
set_option maxHeartbeats 4000000 in
theorem alive_any (w : World) :
    Calls Try.prog 8 #[] w fun e w' => e = .returned (.bool true) ∧ Keep w w' := by
  go_enter Try.func8, Try.ntmps8
  go_wp2_with fail
  refine (a_new w).mono ?_
  rintro e w1 ⟨rfl, h1⟩
  have H1 := Lib.hid h1
  clear h1
  go_wp2_with fail
  refine (a_alloc H1.out).mono ?_
  rintro e w2 ⟨rfl, h2⟩
  have H2 := Lib.hid h2
  clear h2 H1
  go_wp2_with fail
  refine (a_full H2.out).mono ?_
  rintro e w3 ⟨rfl, h3⟩
  have H3 := Lib.hid (H2.out.kept h3)
  clear h3 H2
  go_wp2_with fail
  refine (a_set H3.out).mono ?_
  rintro e w4 ⟨rfl, h4⟩
  have H4 := Lib.hid h4
  clear h4 H3
  go_wp2_with fail
  refine (a_get H4.out).mono ?_
  rintro e w5 ⟨rfl, h5⟩
  have hN5 : NdAt (w5.alloc (.cells #[.int .i32 7, .int .i32 0, .int .i64 0, .int .i64 0, .int .i64 0, .int .i64 0, .bool false] 34)) w5.heap.size Nd.seven := NdAt.new w5 Nd.seven
  have H5 := Lib.hid (H4.out.kept (h5.alloc (.cells #[.int .i32 7, .int .i32 0, .int .i64 0, .int .i64 0, .int .i64 0, .int .i64 0, .bool false] 34)))
  clear h5 H4
  have HN := Lib.hid hN5
  clear hN5
  go_wp2_with fail
  generalize w5.alloc (.cells #[.int .i32 7, .int .i32 0, .int .i64 0, .int .i64 0, .int .i64 0, .int .i64 0, .bool false] 34) = W5 at *
  refine (a_getno H5.out).mono ?_
  rintro e w6 ⟨rfl, h6⟩
  have HK := Lib.hid (h6.alloc (.cells #[.int .i32 0, .int .i32 0, .int .i64 0, .int .i64 0, .int .i64 0, .int .i64 0, .bool false] 34))
  clear h6
  go_wp2_with fail
  generalize w6.alloc (.cells #[.int .i32 0, .int .i32 0, .int .i64 0, .int .i64 0, .int .i64 0, .int .i64 0, .bool false] 34) = W6 at *
  refine (a_no W6).mono ?_
  rintro e w7 ⟨rfl, rfl⟩
  go_wp2_with fail
  refine (a_nodes (H5.out.kept HK.out)).mono ?_
  rintro e w8 ⟨A8, c8, rfl, h8⟩
  have hc := (HN.out.keep (HK.out.trans h8)).cells.1
  dsimp only [Nd.seven] at hc
  have H8 := Lib.hid (H5.out.kept (HK.out.trans h8))
  clear h8 HK H5 HN
  go_wp2_with fail
  refine (a_len H8.out).mono ?_
  rintro e w9 ⟨rfl, rfl⟩
  go_wp2_with fail
  refine (a_room H8.out).mono ?_
  rintro e w10 ⟨rfl, h10⟩
  have H10 := Lib.hid (H8.out.keepW.trans h10)
  clear h10
  go_wp2
  go_ret
  exact ⟨rfl, H10.out⟩
end Go.Proofs.Ytdnhgfbchddabab
