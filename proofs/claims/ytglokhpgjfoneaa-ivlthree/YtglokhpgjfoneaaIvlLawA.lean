/- IvlThree: what is in one alone of two sets is told from either side, and of three in whichever order. -/
import Derived.Test.YtglokhpgjfoneaaIvlArg
namespace Go.Proofs.Ytglokhpgjfoneaa
open Go.RowKit

def odd (f g : Int → Bool) (k : Int) : Bool := (f k && !g k) || (g k && !f k)
theorem odd_o {A : Option Addr} {n c : Nat} {f : Int → Bool} {B : Option Addr} {n2 c2 : Nat} {g : Int → Bool} {w : World} (h : Bg w A n c f) (h2 : Bg w B n2 c2 g) (hn : n ≤ 10000) (hn2 : n2 ≤ 10000) :
    Calls Try.prog 23 #[.slice A n c, .slice B n2 c2] w (Out w (odd f g) (n + n2 + 1 + (n2 + n + 1))) := by
  have Ha := Lib.hid h
  have Hb := Lib.hid h2
  clear h h2
  have hKc := Keep.refl w
  go_enter Try.func23, Try.ntmps23
  go_wp2_with fail
  go_at_call 14
  refine (minus_o Ha.out Hb.out (by omega) (by omega)).mono ?_
  rintro e w101 ⟨Ap, np, cp, rfl, hk, hp, hnp⟩
  replace Ha := Lib.hid (Ha.out.keep hk)
  replace Hb := Lib.hid (Hb.out.keep hk)
  replace hKc := hKc.trans hk
  clear hk
  have Hp := Lib.hid hp
  clear hp
  go_wp2_with fail
  go_at_call 14
  refine (minus_o Hb.out Ha.out (by omega) (by omega)).mono ?_
  rintro e w102 ⟨Aq, nq, cq, rfl, hk, hq, hnq⟩
  replace Ha := Lib.hid (Ha.out.keep hk)
  replace Hb := Lib.hid (Hb.out.keep hk)
  replace Hp := Lib.hid (Hp.out.keep hk)
  replace hKc := hKc.trans hk
  clear hk
  have Hq := Lib.hid hq
  clear hq
  go_wp2_with fail
  go_at_call 12
  refine (union_o Hp.out.bg Hq.out.bg (by omega) (by omega)).mono ?_
  rintro e w103 ⟨Ar, nr, cr, rfl, hk, hr, hnr⟩
  replace Ha := Lib.hid (Ha.out.keep hk)
  replace Hb := Lib.hid (Hb.out.keep hk)
  replace Hp := Lib.hid (Hp.out.keep hk)
  replace Hq := Lib.hid (Hq.out.keep hk)
  replace hKc := hKc.trans hk
  clear hk
  have Hr := Lib.hid hr
  clear hr
  go_wp2
  go_ret
  exact ⟨Ar, nr, cr, rfl, hKc, Hr.out, by omega⟩
theorem St.none {w : World} {A : Option Addr} {n c : Nat} {f : Int → Bool} (h : St w A n c f) (hf : ∀ k, f k = false) : n = 0 := by
  obtain ⟨zs, h1, h2, h3⟩ := h
  rw [← h1.len]
  cases zs with
  | nil => rfl
  | cons x xs =>
    have := hasB_iff.2 (mem_cons.2 (.inl ⟨Int.le_refl x.lo, h2.1 x (by simp)⟩) : mem (x :: xs) x.lo)
    rw [h3, hf] at this
    cases this
theorem bg_nil (w : World) : Bg w none 0 0 (fun _ => false) := ⟨[], arg_nil w, fun _ => rfl⟩
theorem odd_size (f g : Int → Bool) : cz (odd f g) + 2 * cz (fun k => f k && g k) = cz f + cz g := by
  have h1 := cz_minus f g
  have h2 := cz_minus g f
  have h3 := cz_add (fun k => f k && !g k) (fun k => g k && !f k)
  have e1 : cz (fun k => (f k && !g k) && (g k && !f k)) = 0 := cz_none fun k => by cases f k <;> cases g k <;> rfl
  have e2 : cz (fun k => g k && f k) = cz (fun k => f k && g k) := cz_congr fun k _ => Bool.and_comm _ _
  have e3 : cz (odd f g) = cz (fun k => (f k && !g k) || (g k && !f k)) := rfl
  omega
theorem odd_comm (f g : Int → Bool) (k : Int) : odd f g k = odd g f k := Bool.or_comm _ _
theorem odd_assoc (f g h : Int → Bool) (k : Int) : odd (odd f g) h k = odd f (odd g h) k := by
  unfold odd
  cases f k <;> cases g k <;> cases h k <;> rfl

set_option maxRecDepth 100000 in
set_option maxHeartbeats 8000000 in
theorem three_law (A : Option Addr) (n1 c1 : Nat) (B : Option Addr) (n2 c2 : Nat) (C : Option Addr) (n3 c3 : Nat) (f g h : Int → Bool) (w : World) (ha : Bg w A n1 c1 f) (hb : Bg w B n2 c2 g) (hc : Bg w C n3 c3 h) (l1 : n1 ≤ 20) (l2 : n2 ≤ 20) (l3 : n3 ≤ 20) :
    Calls Try.prog 7 #[.slice A n1 c1, .slice B n2 c2, .slice C n3 c3] w fun e w' => e = .returned (.bool true) ∧ Keep w w' := by
  have k1 : ¬ (20 : Int) < (n1 : Int) := by omega
  have k2 : ¬ (20 : Int) < (n2 : Int) := by omega
  have k3 : ¬ (20 : Int) < (n3 : Int) := by omega
  have hfk := ha.key
  have HF := Lib.hid hfk
  have Ha := Lib.hid ha
  have Hb := Lib.hid hb
  have Hc := Lib.hid hc
  have hos := odd_size f g
  have z1 := cz_bd (odd f g)
  have z2 := cz_bd (fun k => f k && g k)
  have z3 := cz_bd f
  have z4 := cz_bd g
  have HSZ := Lib.hid (show IntKind.u64.wrap (cz (odd f g) + IntKind.u64.wrap (2 * cz (fun k => f k && g k))) = cz f + cz g ∧ IntKind.u64.wrap (cz f + cz g) = cz f + cz g ∧ IntKind.u64.wrap (2 * cz (fun k => f k && g k)) = 2 * cz (fun k => f k && g k) ∧ cz (odd f g) + 2 * cz (fun k => f k && g k) = cz f + cz g by
    simp only [IntKind.wrap_u64]
    omega)
  clear ha hb hc hfk z1 z2 z3 z4 hos
  have hKc := Keep.refl w
  go_enter Try.func7, Try.ntmps7
  go_wp2_with fail
  go_at_call 8
  refine (alive_any _).mono ?_
  rintro e w101 ⟨rfl, hk⟩
  replace Ha := Lib.hid (Ha.out.keep hk)
  replace Hb := Lib.hid (Hb.out.keep hk)
  replace Hc := Lib.hid (Hc.out.keep hk)
  replace hKc := hKc.trans hk
  clear hk
  go_wp2_with fail
  go_at_call 23
  refine (odd_o Ha.out Hb.out (by omega) (by omega)).mono ?_
  rintro e w102 ⟨Ap, np, cp, rfl, hk, hp, hnp⟩
  replace Ha := Lib.hid (Ha.out.keep hk)
  replace Hb := Lib.hid (Hb.out.keep hk)
  replace Hc := Lib.hid (Hc.out.keep hk)
  replace hKc := hKc.trans hk
  clear hk
  have Hp := Lib.hid hp
  clear hp
  go_wp2_with fail
  go_at_call 23
  refine (odd_o Hb.out Ha.out (by omega) (by omega)).mono ?_
  rintro e w103 ⟨Aq, nq, cq, rfl, hk, hq, hnq⟩
  replace Ha := Lib.hid (Ha.out.keep hk)
  replace Hb := Lib.hid (Hb.out.keep hk)
  replace Hc := Lib.hid (Hc.out.keep hk)
  replace Hp := Lib.hid (Hp.out.keep hk)
  replace hKc := hKc.trans hk
  clear hk
  have Hq := Lib.hid hq
  clear hq
  go_wp2_with fail
  go_at_call 22
  refine (same_o true Hp.out.bg Hq.out.bg (by omega) (by omega) (by simp [odd_comm f g])).mono ?_
  rintro e w104 ⟨rfl, hk⟩
  replace Ha := Lib.hid (Ha.out.keep hk)
  replace Hb := Lib.hid (Hb.out.keep hk)
  replace Hc := Lib.hid (Hc.out.keep hk)
  replace Hp := Lib.hid (Hp.out.keep hk)
  replace Hq := Lib.hid (Hq.out.keep hk)
  replace hKc := hKc.trans hk
  clear hk
  clear Hp
  clear Hq
  go_wp2_with fail
  go_at_call 23
  refine (odd_o Ha.out Hb.out (by omega) (by omega)).mono ?_
  rintro e w105 ⟨Ap2, np2, cp2, rfl, hk, hp2, hnp2⟩
  replace Ha := Lib.hid (Ha.out.keep hk)
  replace Hb := Lib.hid (Hb.out.keep hk)
  replace Hc := Lib.hid (Hc.out.keep hk)
  replace hKc := hKc.trans hk
  clear hk
  have Hp2 := Lib.hid hp2
  clear hp2
  go_wp2_with fail
  go_at_call 23
  refine (odd_o Hp2.out.bg Hc.out (by omega) (by omega)).mono ?_
  rintro e w106 ⟨Aq2, nq2, cq2, rfl, hk, hq2, hnq2⟩
  replace Ha := Lib.hid (Ha.out.keep hk)
  replace Hb := Lib.hid (Hb.out.keep hk)
  replace Hc := Lib.hid (Hc.out.keep hk)
  replace Hp2 := Lib.hid (Hp2.out.keep hk)
  replace hKc := hKc.trans hk
  clear hk
  have Hq2 := Lib.hid hq2
  clear hq2
  go_wp2_with fail
  go_at_call 23
  refine (odd_o Hb.out Hc.out (by omega) (by omega)).mono ?_
  rintro e w107 ⟨Ap3, np3, cp3, rfl, hk, hp3, hnp3⟩
  replace Ha := Lib.hid (Ha.out.keep hk)
  replace Hb := Lib.hid (Hb.out.keep hk)
  replace Hc := Lib.hid (Hc.out.keep hk)
  replace Hp2 := Lib.hid (Hp2.out.keep hk)
  replace Hq2 := Lib.hid (Hq2.out.keep hk)
  replace hKc := hKc.trans hk
  clear hk
  have Hp3 := Lib.hid hp3
  clear hp3
  go_wp2_with fail
  go_at_call 23
  refine (odd_o Ha.out Hp3.out.bg (by omega) (by omega)).mono ?_
  rintro e w108 ⟨Aq3, nq3, cq3, rfl, hk, hq3, hnq3⟩
  replace Ha := Lib.hid (Ha.out.keep hk)
  replace Hb := Lib.hid (Hb.out.keep hk)
  replace Hc := Lib.hid (Hc.out.keep hk)
  replace Hp2 := Lib.hid (Hp2.out.keep hk)
  replace Hq2 := Lib.hid (Hq2.out.keep hk)
  replace Hp3 := Lib.hid (Hp3.out.keep hk)
  replace hKc := hKc.trans hk
  clear hk
  have Hq3 := Lib.hid hq3
  clear hq3
  go_wp2_with fail
  go_at_call 22
  refine (same_o true Hq2.out.bg Hq3.out.bg (by omega) (by omega) (by simp [odd_assoc f g h])).mono ?_
  rintro e w109 ⟨rfl, hk⟩
  replace Ha := Lib.hid (Ha.out.keep hk)
  replace Hb := Lib.hid (Hb.out.keep hk)
  replace Hc := Lib.hid (Hc.out.keep hk)
  replace Hp2 := Lib.hid (Hp2.out.keep hk)
  replace Hq2 := Lib.hid (Hq2.out.keep hk)
  replace Hp3 := Lib.hid (Hp3.out.keep hk)
  replace Hq3 := Lib.hid (Hq3.out.keep hk)
  replace hKc := hKc.trans hk
  clear hk
  clear Hp2
  clear Hq2
  clear Hp3
  clear Hq3
  go_wp2_with fail
  go_at_call 23
  refine (odd_o Ha.out Ha.out (by omega) (by omega)).mono ?_
  rintro e w110 ⟨Ap4, np4, cp4, rfl, hk, hp4, hnp4⟩
  replace Ha := Lib.hid (Ha.out.keep hk)
  replace Hb := Lib.hid (Hb.out.keep hk)
  replace Hc := Lib.hid (Hc.out.keep hk)
  replace hKc := hKc.trans hk
  clear hk
  have Hp4 := Lib.hid hp4
  clear hp4
  obtain rfl : np4 = 0 := Hp4.out.none (fun k => by unfold odd; cases f k <;> rfl)
  clear Hp4
  go_wp2_with fail
  go_at_call 23
  refine (odd_o Ha.out (bg_nil _) (by omega) (by decide)).mono ?_
  rintro e w111 ⟨Ap5, np5, cp5, rfl, hk, hp5, hnp5⟩
  replace Ha := Lib.hid (Ha.out.keep hk)
  replace Hb := Lib.hid (Hb.out.keep hk)
  replace Hc := Lib.hid (Hc.out.keep hk)
  replace hKc := hKc.trans hk
  clear hk
  have Hp5 := Lib.hid hp5
  clear hp5
  go_wp2_with fail
  go_at_call 22
  refine (same_o true Hp5.out.bg Ha.out (by omega) (by omega) (by simp [odd])).mono ?_
  rintro e w112 ⟨rfl, hk⟩
  replace Ha := Lib.hid (Ha.out.keep hk)
  replace Hb := Lib.hid (Hb.out.keep hk)
  replace Hc := Lib.hid (Hc.out.keep hk)
  replace Hp5 := Lib.hid (Hp5.out.keep hk)
  replace hKc := hKc.trans hk
  clear hk
  clear Hp5
  go_wp2_with fail
  go_at_call 15
  refine (not_o Ha.out (by omega)).mono ?_
  rintro e w113 ⟨Ap6, np6, cp6, rfl, hk, hp6, hnp6⟩
  replace Ha := Lib.hid (Ha.out.keep hk)
  replace Hb := Lib.hid (Hb.out.keep hk)
  replace Hc := Lib.hid (Hc.out.keep hk)
  replace hKc := hKc.trans hk
  clear hk
  have Hp6 := Lib.hid hp6
  clear hp6
  go_wp2_with fail
  go_at_call 23
  refine (odd_o Ha.out Hp6.out.bg (by omega) (by omega)).mono ?_
  rintro e w114 ⟨Ap7, np7, cp7, rfl, hk, hp7, hnp7⟩
  replace Ha := Lib.hid (Ha.out.keep hk)
  replace Hb := Lib.hid (Hb.out.keep hk)
  replace Hc := Lib.hid (Hc.out.keep hk)
  replace Hp6 := Lib.hid (Hp6.out.keep hk)
  replace hKc := hKc.trans hk
  clear hk
  have Hp7 := Lib.hid hp7
  clear hp7
  go_wp2_with fail
  go_at_call 15
  refine (not_o (bg_nil _) (by decide)).mono ?_
  rintro e w115 ⟨Ap8, np8, cp8, rfl, hk, hp8, hnp8⟩
  replace Ha := Lib.hid (Ha.out.keep hk)
  replace Hb := Lib.hid (Hb.out.keep hk)
  replace Hc := Lib.hid (Hc.out.keep hk)
  replace Hp6 := Lib.hid (Hp6.out.keep hk)
  replace Hp7 := Lib.hid (Hp7.out.keep hk)
  replace hKc := hKc.trans hk
  clear hk
  have Hp8 := Lib.hid hp8
  clear hp8
  go_wp2_with fail
  go_at_call 22
  refine (same_o true Hp7.out.bg Hp8.out.bg (by omega) (by omega) ⟨fun _ k => (by have := HF.out k; unfold odd; cases h1 : f k <;> cases h2 : keyB k <;> simp_all), fun _ => rfl⟩).mono ?_
  rintro e w116 ⟨rfl, hk⟩
  replace Ha := Lib.hid (Ha.out.keep hk)
  replace Hb := Lib.hid (Hb.out.keep hk)
  replace Hc := Lib.hid (Hc.out.keep hk)
  replace Hp6 := Lib.hid (Hp6.out.keep hk)
  replace Hp7 := Lib.hid (Hp7.out.keep hk)
  replace Hp8 := Lib.hid (Hp8.out.keep hk)
  replace hKc := hKc.trans hk
  clear hk
  clear Hp6
  clear Hp7
  clear Hp8
  go_wp2_with fail
  go_at_call 23
  refine (odd_o Ha.out Hb.out (by omega) (by omega)).mono ?_
  rintro e w117 ⟨Ap9, np9, cp9, rfl, hk, hp9, hnp9⟩
  replace Ha := Lib.hid (Ha.out.keep hk)
  replace Hb := Lib.hid (Hb.out.keep hk)
  replace Hc := Lib.hid (Hc.out.keep hk)
  replace hKc := hKc.trans hk
  clear hk
  have Hp9 := Lib.hid hp9
  clear hp9
  go_wp2_with fail
  go_at_call 20
  refine (size_o Hp9.out.bg (by omega)).mono ?_
  rintro e w118 ⟨rfl, hk⟩
  replace Ha := Lib.hid (Ha.out.keep hk)
  replace Hb := Lib.hid (Hb.out.keep hk)
  replace Hc := Lib.hid (Hc.out.keep hk)
  replace Hp9 := Lib.hid (Hp9.out.keep hk)
  replace hKc := hKc.trans hk
  clear hk
  go_wp2_with fail
  go_at_call 13
  refine (meet_o Ha.out Hb.out (by omega) (by omega)).mono ?_
  rintro e w119 ⟨Am, nm, cm, rfl, hk, hm, hnm⟩
  replace Ha := Lib.hid (Ha.out.keep hk)
  replace Hb := Lib.hid (Hb.out.keep hk)
  replace Hc := Lib.hid (Hc.out.keep hk)
  replace Hp9 := Lib.hid (Hp9.out.keep hk)
  replace hKc := hKc.trans hk
  clear hk
  have Hm := Lib.hid hm
  clear hm
  go_wp2_with fail
  go_at_call 20
  refine (size_o Hm.out.bg (by omega)).mono ?_
  rintro e w120 ⟨rfl, hk⟩
  replace Ha := Lib.hid (Ha.out.keep hk)
  replace Hb := Lib.hid (Hb.out.keep hk)
  replace Hc := Lib.hid (Hc.out.keep hk)
  replace Hp9 := Lib.hid (Hp9.out.keep hk)
  replace Hm := Lib.hid (Hm.out.keep hk)
  replace hKc := hKc.trans hk
  clear hk
  go_wp2_with fail
  go_at_call 20
  refine (size_o Ha.out (by omega)).mono ?_
  rintro e w121 ⟨rfl, hk⟩
  replace Ha := Lib.hid (Ha.out.keep hk)
  replace Hb := Lib.hid (Hb.out.keep hk)
  replace Hc := Lib.hid (Hc.out.keep hk)
  replace Hp9 := Lib.hid (Hp9.out.keep hk)
  replace Hm := Lib.hid (Hm.out.keep hk)
  replace hKc := hKc.trans hk
  clear hk
  go_wp2_with fail
  go_at_call 20
  refine (size_o Hb.out (by omega)).mono ?_
  rintro e w122 ⟨rfl, hk⟩
  replace Ha := Lib.hid (Ha.out.keep hk)
  replace Hb := Lib.hid (Hb.out.keep hk)
  replace Hc := Lib.hid (Hc.out.keep hk)
  replace Hp9 := Lib.hid (Hp9.out.keep hk)
  replace Hm := Lib.hid (Hm.out.keep hk)
  replace hKc := hKc.trans hk
  clear hk
  obtain ⟨s1, s2, s3, s4⟩ := HSZ.out
  generalize cz (odd f g) = zo at *
  generalize cz (fun k => f k && g k) = zm at *
  generalize cz f = zf at *
  generalize cz g = zg at *
  go_wp2
  go_ret
  exact ⟨rfl, hKc⟩

theorem three_long (A : Option Addr) (n1 c1 : Nat) (B : Option Addr) (n2 c2 : Nat) (C : Option Addr) (n3 c3 : Nat) (w : World) (h : ¬ (n1 ≤ 20 ∧ n2 ≤ 20 ∧ n3 ≤ 20)) :
    Calls Try.prog 7 #[.slice A n1 c1, .slice B n2 c2, .slice C n3 c3] w fun e w' => e = .returned (.bool true) ∧ Keep w w' := by
  by_cases h1 : 20 < n1
  · have k1 : (20 : Int) < (n1 : Int) := by omega
    clear h
    go_enter Try.func7, Try.ntmps7
    go_wp2_with (go_at_call 8; refine (alive_any _).mono ?_; rintro e w1 ⟨rfl, hk1⟩)
    go_ret
    exact ⟨rfl, hk1⟩
  · have k1 : ¬ (20 : Int) < (n1 : Int) := by omega
    by_cases h2 : 20 < n2
    · have k2 : (20 : Int) < (n2 : Int) := by omega
      clear h
      go_enter Try.func7, Try.ntmps7
      go_wp2_with (go_at_call 8; refine (alive_any _).mono ?_; rintro e w1 ⟨rfl, hk1⟩)
      go_ret
      exact ⟨rfl, hk1⟩
    · have k2 : ¬ (20 : Int) < (n2 : Int) := by omega
      have k3 : (20 : Int) < (n3 : Int) := by omega
      clear h
      go_enter Try.func7, Try.ntmps7
      go_wp2_with (go_at_call 8; refine (alive_any _).mono ?_; rintro e w1 ⟨rfl, hk1⟩)
      go_ret
      exact ⟨rfl, hk1⟩
theorem IvlThree_std (A : Option Addr) (n1 c1 : Nat) (xs : List Sp) (B : Option Addr) (n2 c2 : Nat) (ys : List Sp) (C : Option Addr) (n3 c3 : Nat) (zs : List Sp) (w : World) (ra : SpArg w A n1 c1 xs) (rb : SpArg w B n2 c2 ys) (rc : SpArg w C n3 c3 zs) :
    Calls Try.prog 7 #[.slice A n1 c1, .slice B n2 c2, .slice C n3 c3] w fun e w' => e = .returned (.bool true) ∧ Below w.heap.size w w' := by
  by_cases h : n1 ≤ 20 ∧ n2 ≤ 20 ∧ n3 ≤ 20
  · exact three_law A n1 c1 B n2 c2 C n3 c3 _ _ _ w (Bg.of ra.2) (Bg.of rb.2) (Bg.of rc.2) h.1 h.2.1 h.2.2
  · exact three_long A n1 c1 B n2 c2 C n3 c3 w h
end Go.Proofs.Ytglokhpgjfoneaa
