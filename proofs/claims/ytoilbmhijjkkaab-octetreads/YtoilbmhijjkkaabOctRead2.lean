/- octet's Reader, further: Int, Raw, Rest, Left, Bad. -/
import Derived.Test.YtoilbmhijjkkaabOctRead
import Derived.Test.YtoilbmhijjkkaabFitSign
namespace Go.Proofs.Ytoilbmhijjkkaab
open Go.RowKit

theorem left_any (b : Nat) (xs : List Int) (bad : Bool) (w : World) (hr : Rd w b bad xs) :
    Calls Try.prog 27 #[.pointer (some ⟨b, 0, none⟩)] w fun e w' => e = .returned (.int .i64 xs.length) ∧ w = w' := by
  obtain ⟨A, c, h1, h2, h3, h4⟩ := hr
  obtain ⟨c0, c1, f0, f1⟩ := cell_two h1
  clear h1 h2 h4
  go_enter Try.func27, Try.ntmps27
  go_wp2
  go_ret
  exact ⟨rfl, rfl⟩
theorem bad_any (b : Nat) (xs : List Int) (bad : Bool) (w : World) (hr : Rd w b bad xs) :
    Calls Try.prog 28 #[.pointer (some ⟨b, 0, none⟩)] w fun e w' => e = .returned (.bool bad) ∧ w = w' := by
  obtain ⟨A, c, h1, h2, h3, h4⟩ := hr
  obtain ⟨c0, c1, f0, f1⟩ := cell_two h1
  clear h1 h2 h4
  go_enter Try.func28, Try.ntmps28
  go_wp2
  go_ret
  exact ⟨rfl, rfl⟩

theorem rint_bad (size : Int) (b : Nat) (xs : List Int) (bad : Bool) (w : World) (hr : Rd w b bad xs) (h : bad = true ∨ (xs.length : Int) < fsz size) :
    Calls Try.prog 23 #[.pointer (some ⟨b, 0, none⟩), .int .i64 size] w (GetBad w b xs (.int .i64 0)) := by
  have HN := Lib.hid (get_bad size b xs bad w hr h)
  obtain ⟨f1, f2⟩ := fsz_bd size
  have hs : sgnI 0 (fsz size * 8) = 0 := by
    have hz : lowI 0 (fsz size * 8) = 0 := by unfold lowI; exact Int.zero_emod _
    unfold sgnI
    rw [hz, if_pos (twoP_pos _)]
  clear hr h
  go_enter Try.func23, Try.ntmps23
  go_wp2_with (first
    | (go_at_call 21; refine HN.out.mono ?_; rintro e w1 ⟨rfl, h1, h2⟩)
    | (go_at_call 31; refine (fsize_any _ _).mono ?_; rintro e w' ⟨rfl, rfl⟩)
    | (go_at_call 35; refine (sign_i _ _ _).mono ?_; rintro e w' ⟨rfl, rfl⟩))
  go_ret
  exact ⟨rfl, h1, h2⟩
theorem rint_ok (size : Int) (K : Nat) (b : Nat) (xs : List Int) (w : World) (hr : Rd w b false xs) (hx : xs.length ≤ 1099511627776) (hby : Byt xs) (hK : fsz size = (K : Int)) (h : K ≤ xs.length) :
    Calls Try.prog 23 #[.pointer (some ⟨b, 0, none⟩), .int .i64 size] w (GetOk w b K xs (.int .i64 (sgnI (getB (xs.take K)) ((K : Int) * 8)))) := by
  have HN := Lib.hid (get_ok size K b xs w hr hx hby hK h)
  have hf := fsz_bd size
  have f1 : 1 ≤ K := by omega
  have f2 : K ≤ 8 := by omega
  clear hr h hby hf
  go_enter Try.func23, Try.ntmps23
  go_wp2_with (first
    | (go_at_call 21; refine HN.out.mono ?_; rintro e w1 ⟨rfl, h1, h2⟩)
    | (go_at_call 31; refine (fsize_any _ _).mono ?_; rintro e w' ⟨rfl, rfl⟩)
    | (go_at_call 35; refine (sign_i _ _ _).mono ?_; rintro e w' ⟨rfl, rfl⟩))
  go_ret
  exact ⟨rfl, h1, h2⟩

/-- Bytes that are handed out, in memory of their own; the reader goes on. -/
def RawOk (w : World) (b : Nat) (bad : Bool) (piece rest : List Int) (e : Ending) (w' : World) : Prop :=
  ∃ v, e = .returned v ∧ w'.ownsRow w.heap.size 5 1 v piece.length (vals .u8 piece) ∧ Rd w' b bad rest ∧ Only (fun k => k = b) w w'
theorem rraw_bad (n : Int) (b : Nat) (xs : List Int) (bad : Bool) (w : World) (hr : Rd w b bad xs) (h : bad = true ∨ (xs.length : Int) < max n 0) :
    Calls Try.prog 25 #[.pointer (some ⟨b, 0, none⟩), .int .i64 n] w (RawOk w b true [] xs) := by
  have HN := Lib.hid (fun k (hk : k = max n 0) => next_bad k b xs bad w hr (by rw [hk]; exact h))
  clear hr h
  rcases Int.lt_or_le n 0 with hn | hn
  all_goals
    go_enter Try.func25, Try.ntmps25
    go_wp2_with (first
      | (go_at_call 33; refine (HN.out _ (by omega)).mono ?_; rintro e w1 ⟨rfl, h1, h2⟩)
      | (go_at_call 32; refine (clone_nil _ _ _).mono ?_; rintro e w' ⟨rfl, rfl⟩))
    go_ret
    exact ⟨_, rfl, World.ownsRow_nil _ _ _ _, h1, h2⟩
theorem rraw_ok (n : Int) (K : Nat) (b : Nat) (xs : List Int) (w : World) (hr : Rd w b false xs) (hx : xs.length ≤ 1099511627776) (hK : max n 0 = (K : Int)) (h : K ≤ xs.length) :
    Calls Try.prog 25 #[.pointer (some ⟨b, 0, none⟩), .int .i64 n] w (RawOk w b false (xs.take K) (xs.drop K)) := by
  have hbl := hr.lt
  have HN := Lib.hid (fun (k : Int) (hk : k = (K : Int)) => hk ▸ next_ok K b xs w hr hx h)
  have hkl : (xs.take K).length = K := by simp; omega
  have HK := Lib.hid hkl
  clear hr hkl
  rcases Int.lt_or_le n 0 with hn | hn
  all_goals
    go_enter Try.func25, Try.ntmps25
    go_wp2_with (first
      | (go_at_call 33; refine (HN.out _ (by omega)).mono ?_; rintro e w1 ⟨A, rfl, hl, hnn, h1, h2⟩; have hs1 := h2.size)
      | (go_at_call 32; refine (clone_any _ _ _ (xs.take K) w1 b (by omega) (by omega) hl).mono ?_; rintro e w2 ⟨v, rfl, h3, h4⟩))
    go_ret
    have hsz := h2.size
    exact ⟨_, rfl, by rw [HK.out]; exact ownsRow_le h3 hsz, h1.only (Only.of_keep (fun _ => False) h4) (fun _ _ h => h), h2.trans (Only.of_keep (fun _ => False) h4) (fun _ _ h => h.elim)⟩

theorem rest_bad (b : Nat) (xs : List Int) (w : World) (hr : Rd w b true xs) :
    Calls Try.prog 26 #[.pointer (some ⟨b, 0, none⟩)] w (RawOk w b true [] xs) := by
  have HN := Lib.hid (rraw_bad xs.length b xs true w hr (.inl rfl))
  obtain ⟨A, c, h1, h2, h3, h4⟩ := hr
  obtain ⟨c0, c1, f0, f1⟩ := cell_two h1
  clear h1 h2 h4
  go_enter Try.func26, Try.ntmps26
  go_wp2_with (go_at_call 25; refine HN.out.mono ?_; rintro e w1 ⟨v, rfl, h⟩)
  go_ret
  exact ⟨_, rfl, h⟩
theorem rest_ok (b : Nat) (xs : List Int) (w : World) (hr : Rd w b false xs) (hx : xs.length ≤ 1099511627776) :
    Calls Try.prog 26 #[.pointer (some ⟨b, 0, none⟩)] w (RawOk w b false xs []) := by
  have HN := rraw_ok xs.length xs.length b xs w hr hx (by omega) (Nat.le_refl _)
  rw [List.take_length, List.drop_length] at HN
  have HM := Lib.hid HN
  clear HN
  obtain ⟨A, c, h1, h2, h3, h4⟩ := hr
  obtain ⟨c0, c1, f0, f1⟩ := cell_two h1
  clear h1 h2 h4
  go_enter Try.func26, Try.ntmps26
  go_wp2_with (go_at_call 25; refine HM.out.mono ?_; rintro e w1 ⟨v, rfl, h⟩)
  go_ret
  exact ⟨_, rfl, h⟩
end Go.Proofs.Ytoilbmhijjkkaab
