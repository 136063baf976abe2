/- ArenaFills: an arena has as many nodes as it may, and no more. -/
import Derived.Test.YtdnhgfbchddababArnAlive
namespace Go.Proofs.Ytdnhgfbchddabab
open Go.RowKit

theorem and_127 (m : Int) : bits BinOp.and IntKind.i64 m 127 = (((m % 128).toNat : Nat) : Int) := by
  have e1 : (BitVec.ofInt 64 m &&& BitVec.ofInt 64 127).toNat = (m % 18446744073709551616).toNat % 2 ^ 7 := by
    rw [BitVec.toNat_and, show (BitVec.ofInt 64 127) = BitVec.ofNat 64 127 from rfl, BitVec.toNat_ofNat, BitVec.toNat_ofInt, show 127 % 2 ^ 64 = 2 ^ 7 - 1 from rfl, Nat.and_two_pow_sub_one_eq_mod]
    rfl
  show IntKind.i64.wrap ((BitVec.ofInt 64 m &&& BitVec.ofInt 64 127).toNat : Int) = _
  rw [e1]
  simp only [IntKind.wrap, IntKind.bits, IntKind.signed]
  simp
  omega
def reps (n : Nat) : List Nd := List.replicate n Nd.zero
theorem reps_succ (n : Nat) : reps n ++ [Nd.zero] = reps (n + 1) := by simp [reps, List.replicate_succ']
theorem reps_length (n : Nat) : (reps n).length = n := by simp [reps]
section
variable {w0 w : World} {b lim : Nat} {Pr : Nat → Prop}
theorem f_alloc (n : Nat) (h : My w0 b lim (reps n) Pr w) (hf : n < lim) : Calls Try.prog 10 #[.pointer (some ⟨b, 0, none⟩)] w fun e w' => e = .returned (.tuple #[.int .i32 ((n : Int) + 1), .int .i64 0]) ∧ My w0 b lim (reps (n + 1)) Pr w' :=
  (my_alloc h (by rw [reps_length]; exact hf)).mono fun _ _ ⟨h1, h2, _⟩ => by rw [reps_length] at h1; rw [reps_succ] at h2; exact ⟨h1, h2⟩
theorem f_full (h : My w0 b lim (reps lim) Pr w) : Calls Try.prog 10 #[.pointer (some ⟨b, 0, none⟩)] w fun e w' => e = .returned (.tuple #[.int .i32 0, .int .i64 6]) ∧ Keep w w' := my_full h (reps_length lim)
theorem f_get (n j : Nat) (h : My w0 b lim (reps n) Pr w) (hj : j < n) : Calls Try.prog 14 #[.pointer (some ⟨b, 0, none⟩), .int .i32 ((j : Int) + 1)] w fun e w' => e = .returned (.tuple #[.agg #[.int .i32 0, .int .i32 0, .int .i64 0, .int .i64 0, .int .i64 0, .int .i64 0, .bool false], .int .i64 0]) ∧ Keep w w' :=
  my_get j Nd.zero h (by simp [reps, hj])
theorem f_getno (n : Nat) (i : Int) (h : My w0 b lim (reps n) Pr w) (hi : -2147483648 ≤ i ∧ i ≤ 2147483647) (hn : ¬ (1 ≤ i ∧ i ≤ (n : Int))) : Calls Try.prog 14 #[.pointer (some ⟨b, 0, none⟩), .int .i32 i] w fun e w' => e = .returned (.tuple #[.agg #[.int .i32 0, .int .i32 0, .int .i64 0, .int .i64 0, .int .i64 0, .int .i64 0, .bool false], .int .i64 4]) ∧ Keep w w' :=
  my_getno i h hi (by rw [reps_length]; exact hn)
def Nd.dead : Nd := ⟨0, 0, 0, 0, 0, 0, true⟩
theorem f_set (n j : Nat) (h : My w0 b lim (reps n) Pr w) (hj : j < n) : Calls Try.prog 12 #[.pointer (some ⟨b, 0, none⟩), .int .i32 ((j : Int) + 1), .agg #[.int .i32 0, .int .i32 0, .int .i64 0, .int .i64 0, .int .i64 0, .int .i64 0, .bool true]] w fun e w' => e = .returned (.int .i64 0) ∧ Keep w0 w' :=
  (my_set j Nd.dead h (by rw [reps_length]; exact hj)).mono fun _ _ ⟨h1, h2, _⟩ => ⟨h1, h2.keepW⟩
theorem f_setno (n : Nat) (i : Int) (h : My w0 b lim (reps n) Pr w) (hi : -2147483648 ≤ i ∧ i ≤ 2147483647) (hn : ¬ (1 ≤ i ∧ i ≤ (n : Int))) : Calls Try.prog 12 #[.pointer (some ⟨b, 0, none⟩), .int .i32 i, .agg #[.int .i32 0, .int .i32 0, .int .i64 0, .int .i64 0, .int .i64 0, .int .i64 0, .bool true]] w fun e w' => e = .returned (.int .i64 4) ∧ Keep w w' :=
  my_setno i Nd.dead h hi (by rw [reps_length]; exact hn)
theorem f_room (n : Nat) (h : My w0 b lim (reps n) Pr w) : Calls Try.prog 17 #[.pointer (some ⟨b, 0, none⟩)] w fun e w' => e = .returned (.int .i64 ((lim : Int) - (n : Int))) ∧ Keep w w' := by
  have := my_room h
  rwa [reps_length] at this
theorem f_len (n : Nat) (h : My w0 b lim (reps n) Pr w) : Calls Try.prog 16 #[.pointer (some ⟨b, 0, none⟩)] w fun e w' => e = .returned (.int .i64 (n : Int)) ∧ w = w' := by
  have := my_len h
  rwa [reps_length] at this
theorem f_new (M : Nat) (w : World) (hM : M < 128) : Calls Try.prog 9 #[.int .i64 (1 + (M : Int))] w fun e w' => e = .returned (.tuple #[.pointer (some ⟨w.heap.size, 0, none⟩), .int .i64 0]) ∧ My w w.heap.size (M + 1) (reps 0) (fun _ => False) w' := by
  have := my_new (M + 1) w (by omega) (by omega)
  rwa [show (((M + 1 : Nat) : Int)) = 1 + (M : Int) by omega] at this
theorem f_room2 (n M : Nat) (h : My w0 b (M + 1) (reps (n + 1)) Pr w) : Calls Try.prog 17 #[.pointer (some ⟨b, 0, none⟩)] w fun e w' => e = .returned (.int .i64 (1 + (M : Int) - ((n : Int) + 1))) ∧ Keep w w' := by
  have := f_room (n + 1) h
  rwa [show (((M + 1 : Nat) : Int)) - ((n + 1 : Nat) : Int) = 1 + (M : Int) - ((n : Int) + 1) by omega] at this
end
set_option maxRecDepth 100000 in
set_option maxHeartbeats 4000000 in
theorem ArenaFills_std (a0 : Int) (_w0 : (Lit.int .i64 a0).wf = true) (a1 : Int) (w1 : (Lit.int .i32 a1).wf = true) (w : World) :
    Calls Try.prog 5 #[.int .i64 a0, .int .i32 a1] w fun e w' => e = .returned (.bool true) ∧ Below w.heap.size w w' := by
  have hi1 : -2147483648 ≤ a1 ∧ a1 ≤ 2147483647 := by
    have e1 : IntKind.i32.min = -2147483648 := by decide
    have e2 : IntKind.i32.max = 2147483647 := by decide
    simp [Lit.wf, e1, e2] at w1
    omega
  have hb := and_127 a0
  have hm : (a0 % 128).toNat < 128 := by omega
  generalize (a0 % 128).toNat = M at *
  clear w1
  go_enter Try.func5, Try.ntmps5
  go_wp2_with fail
  refine (alive_any w).mono ?_
  rintro e W0 ⟨rfl, hk0⟩
  have HK0 := Lib.hid hk0
  clear hk0
  go_wp2_with fail
  refine (f_new M W0 hm).mono ?_
  rintro e W1 ⟨rfl, h1⟩
  have H1 := Lib.hid h1
  clear h1
  go_wp2_with fail
  go_loopw [7] (fun p wr => ∃ n : Nat, p = .int .i64 ((n : Int) + 1) ∧ n ≤ M + 1 ∧ My W0 W0.heap.size (M + 1) (reps n) (fun _ => False) wr) (fun p _ => M + 3 - (intOf p).toNat)
  case atStart => exact ⟨0, rfl, by omega, H1.out⟩
  case round =>
    obtain ⟨n, rfl, hn, hM⟩ := hrel
    by_cases hlt : n ≤ M
    · have HM := Lib.hid hM
      have hle : (n : Int) + 1 ≤ 1 + (M : Int) := by omega
      clear hM H1
      go_wp2_with fail
      refine (f_alloc n HM.out (by omega)).mono ?_
      rintro e W2 ⟨rfl, h2⟩
      have H2 := Lib.hid h2
      clear h2 HM
      go_wp2_with fail
      refine (f_get (n + 1) n H2.out (by omega)).mono ?_
      rintro e W3 ⟨rfl, h3⟩
      have H3 := Lib.hid (H2.out.kept (h3.alloc (.cells #[.int .i32 0, .int .i32 0, .int .i64 0, .int .i64 0, .int .i64 0, .int .i64 0, .bool false] 34)))
      clear h3 H2
      go_wp2_with fail
      refine (f_room2 n M H3.out).mono ?_
      rintro e W4 ⟨rfl, h4⟩
      have H4 := Lib.hid (H3.out.kept h4)
      clear h4 H3
      go_wp2_with fail
      refine (f_len (n + 1) H4.out).mono ?_
      rintro e W5 ⟨rfl, rfl⟩
      go_wp2
      go_roundw
      case rel => exact ⟨n + 1, by go_num, by omega, H4.out⟩
      case measure => simp [intOf]; omega
    · have hn1 : n = M + 1 := by omega
      subst hn1
      have HM := Lib.hid hM
      have hle : ¬ ((M + 1 : Nat) : Int) + 1 ≤ 1 + (M : Int) := by omega
      clear hM H1 hlt hn
      go_wp2_with fail
      refine (f_full HM.out).mono ?_
      rintro e W2 ⟨rfl, h2⟩
      have H2 := Lib.hid (HM.out.kept h2)
      clear h2 HM
      go_wp2_with fail
      by_cases hin : 1 ≤ a1 ∧ a1 ≤ 1 + (M : Int)
      · obtain ⟨hin1, hin2⟩ := hin
        obtain ⟨j, rfl⟩ : ∃ j : Nat, a1 = (j : Int) + 1 := ⟨(a1 - 1).toNat, by omega⟩
        refine (f_get (M + 1) j H2.out (by omega)).mono ?_
        rintro e W3 ⟨rfl, h3⟩
        have H3 := Lib.hid (H2.out.kept (h3.alloc (.cells #[.int .i32 0, .int .i32 0, .int .i64 0, .int .i64 0, .int .i64 0, .int .i64 0, .bool false] 34)))
        clear h3 H2
        go_wp2_with fail
        refine (f_set (M + 1) j H3.out (by omega)).mono ?_
        rintro e W4 ⟨rfl, h4⟩
        go_wp2
        go_ret
        exact ⟨rfl, HK0.out.trans h4⟩
      · have hno : ¬ (1 ≤ a1 ∧ a1 ≤ ((M + 1 : Nat) : Int)) := by omega
        refine (f_getno (M + 1) a1 H2.out hi1 hno).mono ?_
        rintro e W3 ⟨rfl, h3⟩
        have H3 := Lib.hid (H2.out.kept (h3.alloc (.cells #[.int .i32 0, .int .i32 0, .int .i64 0, .int .i64 0, .int .i64 0, .int .i64 0, .bool false] 34)))
        clear h3 H2
        go_wp2_with fail
        refine (f_setno (M + 1) a1 H3.out hi1 hno).mono ?_
        rintro e W4 ⟨rfl, h4⟩
        have HK4 := Lib.hid (HK0.out.trans (H3.out.keepW.trans h4))
        clear h4 H3 HK0 hno
        by_cases h1 : a1 < 1
        · clear hin
          go_wp2
          go_ret
          exact ⟨rfl, HK4.out⟩
        · have h1' : 1 ≤ a1 := by omega
          have h2' : decide (a1 ≤ 1 + (M : Int)) = false := decide_eq_false (by omega)
          clear hin h1
          go_wp2
          go_ret
          exact ⟨rfl, HK4.out⟩
end Go.Proofs.Ytdnhgfbchddabab
