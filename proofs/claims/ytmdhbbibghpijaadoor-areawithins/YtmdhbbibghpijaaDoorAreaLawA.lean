/- AreaWithins: what is within two is within what both have; two are within one just if both together are. -/
import Derived.Test.YtmdhbbibghpijaaDoorAreaArg
namespace Go.Proofs.YtmdhbbibghpijaaDoor
open Go.RowKit

theorem sub_meet {f g h : Nat → Int → Bool} : sub f (fun i k => g i k && h i k) ↔ sub f g ∧ sub f h := by
  unfold sub
  constructor
  · intro q
    exact ⟨fun i k e => by have := q i k e; simp at this; exact this.1, fun i k e => by have := q i k e; simp at this; exact this.2⟩
  · rintro ⟨q1, q2⟩ i k e
    simp [q1 i k e, q2 i k e]
theorem sub_union {f g h : Nat → Int → Bool} : sub (fun i k => f i k || g i k) h ↔ sub f h ∧ sub g h := by
  unfold sub
  constructor
  · intro q
    exact ⟨fun i k e => q i k (by simp [e]), fun i k e => q i k (by simp [e])⟩
  · rintro ⟨q1, q2⟩ i k e
    simp at e
    rcases e with e | e
    · exact q1 i k e
    · exact q2 i k e
theorem sub_mu (f g h : Nat → Int → Bool) : sub (fun i k => f i k && g i k) (fun i k => g i k || h i k) := fun i k e => by simp at e; simp [e.2]
/-- A Bool that tells a proposition. -/
structure Tells (v : Bool) (P : Prop) : Prop where
  iff : v = true ↔ P
theorem tells_is (P : Prop) : ∃ v : Bool, Tells v P := by
  by_cases h : P
  · exact ⟨true, ⟨by simp [h]⟩⟩
  · exact ⟨false, ⟨by simp [h]⟩⟩

set_option maxRecDepth 100000 in
set_option maxHeartbeats 16000000 in
theorem withins_few {w : World} {A B C : Option Addr} {na ca nb cb nc cc : Nat} {za zb zc : List (List Sp)} (ra : AArg w A na ca za) (rb : AArg w B nb cb zb) (rc : AArg w C nc cc zc) (ea : fewB za = true) (eb : fewB zb = true) (ec : fewB zc = true) (hT : Tab w) :
    Calls Tryd.prog 6 #[.slice A na ca, .slice B nb cb, .slice C nc cc] w fun e w' => e = .returned (.bool true) ∧ Keep w w' := by
  have la : na ≤ 20 := by rw [← ra.2.2.2.1]; exact (fewB_yes ea).2
  have lb : nb ≤ 20 := by rw [← rb.2.2.2.1]; exact (fewB_yes eb).2
  have lc : nc ≤ 20 := by rw [← rc.2.2.2.1]; exact (fewB_yes ec).2
  have HE := Lib.hid (And.intro ea (And.intro eb ec))
  have Ha := Lib.hid ra
  have Hb := Lib.hid rb
  have Hc := Lib.hid rc
  have HT := Lib.hid hT
  obtain ⟨p, hp⟩ := tells_is (sub (arF za) (arF zb))
  obtain ⟨q, hq⟩ := tells_is (sub (arF za) (arF zc))
  obtain ⟨r, hr⟩ := tells_is (sub (arF zb) (arF zc))
  have HP := Lib.hid (And.intro hp (And.intro hq hr))
  have ht : p = true → r = true → q = true := fun h1 h2 => hq.iff.2 fun i k e => hr.iff.1 h2 i k (hp.iff.1 h1 i k e)
  clear ra rb rc ea eb ec hT hp hq hr
  have hKc := Keep.refl w
  cases p
  · cases q
    · cases r
      · clear ht
        go_enter Tryd.func6, Tryd.ntmps6
        go_wp2_with fail
        go_at_call 8
        refine (alive_any _ HT.out).mono ?_
        rintro e w101 ⟨rfl, hk⟩
        replace Ha := Lib.hid (Ha.out.keep hk)
        replace Hb := Lib.hid (Hb.out.keep hk)
        replace Hc := Lib.hid (Hc.out.keep hk)
        replace hKc := hKc.trans hk
        clear hk
        go_wp2_with fail
        go_at_call 9
        refine (few_a Ha.out).mono ?_
        rintro e wfa ⟨rfl, rfl⟩
        rw [HE.out.1]
        go_wp2_with fail
        go_at_call 9
        refine (few_a Hb.out).mono ?_
        rintro e wfb ⟨rfl, rfl⟩
        rw [HE.out.2.1]
        go_wp2_with fail
        go_at_call 9
        refine (few_a Hc.out).mono ?_
        rintro e wfc ⟨rfl, rfl⟩
        rw [HE.out.2.2]
        replace Ha := Lib.hid (Ha.out.area (fewB_yes HE.out.1).1)
        replace Hb := Lib.hid (Hb.out.area (fewB_yes HE.out.2.1).1)
        replace Hc := Lib.hid (Hc.out.area (fewB_yes HE.out.2.2).1)
        go_wp2_with fail
        go_at_call 13
        refine (meet_a Hb.out Hc.out (by decide) (by decide) (by omega)).mono ?_
        rintro e w102 ⟨Am, cm, rfl, hk, hm, hcm⟩
        replace Ha := Lib.hid (Ha.out.keep hk)
        replace Hb := Lib.hid (Hb.out.keep hk)
        replace Hc := Lib.hid (Hc.out.keep hk)
        replace hKc := hKc.trans hk
        clear hk
        have Hm := Lib.hid hm
        clear hm
        go_wp2_with fail
        go_at_call 22
        refine (within_a false Ha.out Hm.out.area (by decide) (by decide) (by omega) (by have h := HP.out; rw [sub_meet, ← h.1.iff, ← h.2.1.iff]; decide)).mono ?_
        rintro e w103 ⟨rfl, hk⟩
        replace Ha := Lib.hid (Ha.out.keep hk)
        replace Hb := Lib.hid (Hb.out.keep hk)
        replace Hc := Lib.hid (Hc.out.keep hk)
        replace Hm := Lib.hid (Hm.out.keep hk)
        replace hKc := hKc.trans hk
        clear hk
        clear Hm
        go_wp2_with fail
        go_at_call 22
        refine (within_a false Ha.out Hb.out (by decide) (by decide) (by omega) (by have h := HP.out; exact h.1.iff)).mono ?_
        rintro e w104 ⟨rfl, hk⟩
        replace Ha := Lib.hid (Ha.out.keep hk)
        replace Hb := Lib.hid (Hb.out.keep hk)
        replace Hc := Lib.hid (Hc.out.keep hk)
        replace hKc := hKc.trans hk
        clear hk
        go_wp2_with fail
        go_at_call 12
        refine (union_a Ha.out Hb.out (by decide) (by decide) (by omega)).mono ?_
        rintro e w105 ⟨Au, cu, rfl, hk, hu, hcu⟩
        replace Ha := Lib.hid (Ha.out.keep hk)
        replace Hb := Lib.hid (Hb.out.keep hk)
        replace Hc := Lib.hid (Hc.out.keep hk)
        replace hKc := hKc.trans hk
        clear hk
        have Hu := Lib.hid hu
        clear hu
        go_wp2_with fail
        go_at_call 22
        refine (within_a false Hu.out.area Hc.out (by decide) (by decide) (by omega) (by have h := HP.out; rw [sub_union, ← h.2.1.iff, ← h.2.2.iff]; decide)).mono ?_
        rintro e w106 ⟨rfl, hk⟩
        replace Ha := Lib.hid (Ha.out.keep hk)
        replace Hb := Lib.hid (Hb.out.keep hk)
        replace Hc := Lib.hid (Hc.out.keep hk)
        replace Hu := Lib.hid (Hu.out.keep hk)
        replace hKc := hKc.trans hk
        clear hk
        clear Hu
        go_wp2_with fail
        go_at_call 22
        refine (within_a false Ha.out Hc.out (by decide) (by decide) (by omega) (by have h := HP.out; exact h.2.1.iff)).mono ?_
        rintro e w107 ⟨rfl, hk⟩
        replace Ha := Lib.hid (Ha.out.keep hk)
        replace Hb := Lib.hid (Hb.out.keep hk)
        replace Hc := Lib.hid (Hc.out.keep hk)
        replace hKc := hKc.trans hk
        clear hk
        go_wp2_with fail
        go_at_call 22
        refine (within_a false Ha.out Hb.out (by decide) (by decide) (by omega) (by have h := HP.out; exact h.1.iff)).mono ?_
        rintro e w108 ⟨rfl, hk⟩
        replace Ha := Lib.hid (Ha.out.keep hk)
        replace Hb := Lib.hid (Hb.out.keep hk)
        replace Hc := Lib.hid (Hc.out.keep hk)
        replace hKc := hKc.trans hk
        clear hk
        go_wp2_with fail
        go_at_call 13
        refine (meet_a Ha.out Hb.out (by decide) (by decide) (by omega)).mono ?_
        rintro e w109 ⟨An, cn, rfl, hk, hn, hcn⟩
        replace Ha := Lib.hid (Ha.out.keep hk)
        replace Hb := Lib.hid (Hb.out.keep hk)
        replace Hc := Lib.hid (Hc.out.keep hk)
        replace hKc := hKc.trans hk
        clear hk
        have Hn := Lib.hid hn
        clear hn
        go_wp2_with fail
        go_at_call 12
        refine (union_a Hb.out Hc.out (by decide) (by decide) (by omega)).mono ?_
        rintro e w110 ⟨Av, cv, rfl, hk, hv, hcv⟩
        replace Ha := Lib.hid (Ha.out.keep hk)
        replace Hb := Lib.hid (Hb.out.keep hk)
        replace Hc := Lib.hid (Hc.out.keep hk)
        replace Hn := Lib.hid (Hn.out.keep hk)
        replace hKc := hKc.trans hk
        clear hk
        have Hv := Lib.hid hv
        clear hv
        go_wp2_with fail
        go_at_call 22
        refine (within_a true Hn.out.area Hv.out.area (by decide) (by decide) (by omega) (by have h := HP.out; exact ⟨fun _ => sub_mu _ _ _, fun _ => rfl⟩)).mono ?_
        rintro e w111 ⟨rfl, hk⟩
        replace Ha := Lib.hid (Ha.out.keep hk)
        replace Hb := Lib.hid (Hb.out.keep hk)
        replace Hc := Lib.hid (Hc.out.keep hk)
        replace Hn := Lib.hid (Hn.out.keep hk)
        replace Hv := Lib.hid (Hv.out.keep hk)
        replace hKc := hKc.trans hk
        clear hk
        clear Hn
        clear Hv
        go_wp2_with fail
        go_at_call 12
        refine (union_a Ha.out Hb.out (by decide) (by decide) (by omega)).mono ?_
        rintro e w112 ⟨As, cs, rfl, hk, hs, hcs⟩
        replace Ha := Lib.hid (Ha.out.keep hk)
        replace Hb := Lib.hid (Hb.out.keep hk)
        replace Hc := Lib.hid (Hc.out.keep hk)
        replace hKc := hKc.trans hk
        clear hk
        have Hs := Lib.hid hs
        clear hs
        go_wp2_with fail
        go_at_call 12
        refine (union_a Hb.out Ha.out (by decide) (by decide) (by omega)).mono ?_
        rintro e w113 ⟨At, ct, rfl, hk, ht, hct⟩
        replace Ha := Lib.hid (Ha.out.keep hk)
        replace Hb := Lib.hid (Hb.out.keep hk)
        replace Hc := Lib.hid (Hc.out.keep hk)
        replace Hs := Lib.hid (Hs.out.keep hk)
        replace hKc := hKc.trans hk
        clear hk
        have Ht := Lib.hid ht
        clear ht
        go_wp2_with fail
        go_at_call 24
        refine (same_a true Hs.out.area Ht.out.area (by decide) (by decide) (by omega) ⟨fun _ _ _ => Bool.or_comm _ _, fun _ => rfl⟩).mono ?_
        rintro e w114 ⟨rfl, hk⟩
        replace Ha := Lib.hid (Ha.out.keep hk)
        replace Hb := Lib.hid (Hb.out.keep hk)
        replace Hc := Lib.hid (Hc.out.keep hk)
        replace Hs := Lib.hid (Hs.out.keep hk)
        replace Ht := Lib.hid (Ht.out.keep hk)
        replace hKc := hKc.trans hk
        clear hk
        clear Hs
        clear Ht
        go_wp2_with fail
        go_at_call 13
        refine (meet_a Ha.out Hb.out (by decide) (by decide) (by omega)).mono ?_
        rintro e w115 ⟨Ay, cy, rfl, hk, hy, hcy⟩
        replace Ha := Lib.hid (Ha.out.keep hk)
        replace Hb := Lib.hid (Hb.out.keep hk)
        replace Hc := Lib.hid (Hc.out.keep hk)
        replace hKc := hKc.trans hk
        clear hk
        have Hy := Lib.hid hy
        clear hy
        go_wp2_with fail
        go_at_call 13
        refine (meet_a Hb.out Ha.out (by decide) (by decide) (by omega)).mono ?_
        rintro e w116 ⟨Az, cz, rfl, hk, hz, hcz⟩
        replace Ha := Lib.hid (Ha.out.keep hk)
        replace Hb := Lib.hid (Hb.out.keep hk)
        replace Hc := Lib.hid (Hc.out.keep hk)
        replace Hy := Lib.hid (Hy.out.keep hk)
        replace hKc := hKc.trans hk
        clear hk
        have Hz := Lib.hid hz
        clear hz
        go_wp2_with fail
        go_at_call 24
        refine (same_a true Hy.out.area Hz.out.area (by decide) (by decide) (by omega) ⟨fun _ _ _ => Bool.and_comm _ _, fun _ => rfl⟩).mono ?_
        rintro e w117 ⟨rfl, hk⟩
        replace Ha := Lib.hid (Ha.out.keep hk)
        replace Hb := Lib.hid (Hb.out.keep hk)
        replace Hc := Lib.hid (Hc.out.keep hk)
        replace Hy := Lib.hid (Hy.out.keep hk)
        replace Hz := Lib.hid (Hz.out.keep hk)
        replace hKc := hKc.trans hk
        clear hk
        go_wp2
        go_ret
        exact ⟨rfl, hKc⟩
      · clear ht
        go_enter Tryd.func6, Tryd.ntmps6
        go_wp2_with fail
        go_at_call 8
        refine (alive_any _ HT.out).mono ?_
        rintro e w101 ⟨rfl, hk⟩
        replace Ha := Lib.hid (Ha.out.keep hk)
        replace Hb := Lib.hid (Hb.out.keep hk)
        replace Hc := Lib.hid (Hc.out.keep hk)
        replace hKc := hKc.trans hk
        clear hk
        go_wp2_with fail
        go_at_call 9
        refine (few_a Ha.out).mono ?_
        rintro e wfa ⟨rfl, rfl⟩
        rw [HE.out.1]
        go_wp2_with fail
        go_at_call 9
        refine (few_a Hb.out).mono ?_
        rintro e wfb ⟨rfl, rfl⟩
        rw [HE.out.2.1]
        go_wp2_with fail
        go_at_call 9
        refine (few_a Hc.out).mono ?_
        rintro e wfc ⟨rfl, rfl⟩
        rw [HE.out.2.2]
        replace Ha := Lib.hid (Ha.out.area (fewB_yes HE.out.1).1)
        replace Hb := Lib.hid (Hb.out.area (fewB_yes HE.out.2.1).1)
        replace Hc := Lib.hid (Hc.out.area (fewB_yes HE.out.2.2).1)
        go_wp2_with fail
        go_at_call 13
        refine (meet_a Hb.out Hc.out (by decide) (by decide) (by omega)).mono ?_
        rintro e w102 ⟨Am, cm, rfl, hk, hm, hcm⟩
        replace Ha := Lib.hid (Ha.out.keep hk)
        replace Hb := Lib.hid (Hb.out.keep hk)
        replace Hc := Lib.hid (Hc.out.keep hk)
        replace hKc := hKc.trans hk
        clear hk
        have Hm := Lib.hid hm
        clear hm
        go_wp2_with fail
        go_at_call 22
        refine (within_a false Ha.out Hm.out.area (by decide) (by decide) (by omega) (by have h := HP.out; rw [sub_meet, ← h.1.iff, ← h.2.1.iff]; decide)).mono ?_
        rintro e w103 ⟨rfl, hk⟩
        replace Ha := Lib.hid (Ha.out.keep hk)
        replace Hb := Lib.hid (Hb.out.keep hk)
        replace Hc := Lib.hid (Hc.out.keep hk)
        replace Hm := Lib.hid (Hm.out.keep hk)
        replace hKc := hKc.trans hk
        clear hk
        clear Hm
        go_wp2_with fail
        go_at_call 22
        refine (within_a false Ha.out Hb.out (by decide) (by decide) (by omega) (by have h := HP.out; exact h.1.iff)).mono ?_
        rintro e w104 ⟨rfl, hk⟩
        replace Ha := Lib.hid (Ha.out.keep hk)
        replace Hb := Lib.hid (Hb.out.keep hk)
        replace Hc := Lib.hid (Hc.out.keep hk)
        replace hKc := hKc.trans hk
        clear hk
        go_wp2_with fail
        go_at_call 12
        refine (union_a Ha.out Hb.out (by decide) (by decide) (by omega)).mono ?_
        rintro e w105 ⟨Au, cu, rfl, hk, hu, hcu⟩
        replace Ha := Lib.hid (Ha.out.keep hk)
        replace Hb := Lib.hid (Hb.out.keep hk)
        replace Hc := Lib.hid (Hc.out.keep hk)
        replace hKc := hKc.trans hk
        clear hk
        have Hu := Lib.hid hu
        clear hu
        go_wp2_with fail
        go_at_call 22
        refine (within_a false Hu.out.area Hc.out (by decide) (by decide) (by omega) (by have h := HP.out; rw [sub_union, ← h.2.1.iff, ← h.2.2.iff]; decide)).mono ?_
        rintro e w106 ⟨rfl, hk⟩
        replace Ha := Lib.hid (Ha.out.keep hk)
        replace Hb := Lib.hid (Hb.out.keep hk)
        replace Hc := Lib.hid (Hc.out.keep hk)
        replace Hu := Lib.hid (Hu.out.keep hk)
        replace hKc := hKc.trans hk
        clear hk
        clear Hu
        go_wp2_with fail
        go_at_call 22
        refine (within_a false Ha.out Hc.out (by decide) (by decide) (by omega) (by have h := HP.out; exact h.2.1.iff)).mono ?_
        rintro e w107 ⟨rfl, hk⟩
        replace Ha := Lib.hid (Ha.out.keep hk)
        replace Hb := Lib.hid (Hb.out.keep hk)
        replace Hc := Lib.hid (Hc.out.keep hk)
        replace hKc := hKc.trans hk
        clear hk
        go_wp2_with fail
        go_at_call 22
        refine (within_a false Ha.out Hb.out (by decide) (by decide) (by omega) (by have h := HP.out; exact h.1.iff)).mono ?_
        rintro e w108 ⟨rfl, hk⟩
        replace Ha := Lib.hid (Ha.out.keep hk)
        replace Hb := Lib.hid (Hb.out.keep hk)
        replace Hc := Lib.hid (Hc.out.keep hk)
        replace hKc := hKc.trans hk
        clear hk
        go_wp2_with fail
        go_at_call 13
        refine (meet_a Ha.out Hb.out (by decide) (by decide) (by omega)).mono ?_
        rintro e w109 ⟨An, cn, rfl, hk, hn, hcn⟩
        replace Ha := Lib.hid (Ha.out.keep hk)
        replace Hb := Lib.hid (Hb.out.keep hk)
        replace Hc := Lib.hid (Hc.out.keep hk)
        replace hKc := hKc.trans hk
        clear hk
        have Hn := Lib.hid hn
        clear hn
        go_wp2_with fail
        go_at_call 12
        refine (union_a Hb.out Hc.out (by decide) (by decide) (by omega)).mono ?_
        rintro e w110 ⟨Av, cv, rfl, hk, hv, hcv⟩
        replace Ha := Lib.hid (Ha.out.keep hk)
        replace Hb := Lib.hid (Hb.out.keep hk)
        replace Hc := Lib.hid (Hc.out.keep hk)
        replace Hn := Lib.hid (Hn.out.keep hk)
        replace hKc := hKc.trans hk
        clear hk
        have Hv := Lib.hid hv
        clear hv
        go_wp2_with fail
        go_at_call 22
        refine (within_a true Hn.out.area Hv.out.area (by decide) (by decide) (by omega) (by have h := HP.out; exact ⟨fun _ => sub_mu _ _ _, fun _ => rfl⟩)).mono ?_
        rintro e w111 ⟨rfl, hk⟩
        replace Ha := Lib.hid (Ha.out.keep hk)
        replace Hb := Lib.hid (Hb.out.keep hk)
        replace Hc := Lib.hid (Hc.out.keep hk)
        replace Hn := Lib.hid (Hn.out.keep hk)
        replace Hv := Lib.hid (Hv.out.keep hk)
        replace hKc := hKc.trans hk
        clear hk
        clear Hn
        clear Hv
        go_wp2_with fail
        go_at_call 12
        refine (union_a Ha.out Hb.out (by decide) (by decide) (by omega)).mono ?_
        rintro e w112 ⟨As, cs, rfl, hk, hs, hcs⟩
        replace Ha := Lib.hid (Ha.out.keep hk)
        replace Hb := Lib.hid (Hb.out.keep hk)
        replace Hc := Lib.hid (Hc.out.keep hk)
        replace hKc := hKc.trans hk
        clear hk
        have Hs := Lib.hid hs
        clear hs
        go_wp2_with fail
        go_at_call 12
        refine (union_a Hb.out Ha.out (by decide) (by decide) (by omega)).mono ?_
        rintro e w113 ⟨At, ct, rfl, hk, ht, hct⟩
        replace Ha := Lib.hid (Ha.out.keep hk)
        replace Hb := Lib.hid (Hb.out.keep hk)
        replace Hc := Lib.hid (Hc.out.keep hk)
        replace Hs := Lib.hid (Hs.out.keep hk)
        replace hKc := hKc.trans hk
        clear hk
        have Ht := Lib.hid ht
        clear ht
        go_wp2_with fail
        go_at_call 24
        refine (same_a true Hs.out.area Ht.out.area (by decide) (by decide) (by omega) ⟨fun _ _ _ => Bool.or_comm _ _, fun _ => rfl⟩).mono ?_
        rintro e w114 ⟨rfl, hk⟩
        replace Ha := Lib.hid (Ha.out.keep hk)
        replace Hb := Lib.hid (Hb.out.keep hk)
        replace Hc := Lib.hid (Hc.out.keep hk)
        replace Hs := Lib.hid (Hs.out.keep hk)
        replace Ht := Lib.hid (Ht.out.keep hk)
        replace hKc := hKc.trans hk
        clear hk
        clear Hs
        clear Ht
        go_wp2_with fail
        go_at_call 13
        refine (meet_a Ha.out Hb.out (by decide) (by decide) (by omega)).mono ?_
        rintro e w115 ⟨Ay, cy, rfl, hk, hy, hcy⟩
        replace Ha := Lib.hid (Ha.out.keep hk)
        replace Hb := Lib.hid (Hb.out.keep hk)
        replace Hc := Lib.hid (Hc.out.keep hk)
        replace hKc := hKc.trans hk
        clear hk
        have Hy := Lib.hid hy
        clear hy
        go_wp2_with fail
        go_at_call 13
        refine (meet_a Hb.out Ha.out (by decide) (by decide) (by omega)).mono ?_
        rintro e w116 ⟨Az, cz, rfl, hk, hz, hcz⟩
        replace Ha := Lib.hid (Ha.out.keep hk)
        replace Hb := Lib.hid (Hb.out.keep hk)
        replace Hc := Lib.hid (Hc.out.keep hk)
        replace Hy := Lib.hid (Hy.out.keep hk)
        replace hKc := hKc.trans hk
        clear hk
        have Hz := Lib.hid hz
        clear hz
        go_wp2_with fail
        go_at_call 24
        refine (same_a true Hy.out.area Hz.out.area (by decide) (by decide) (by omega) ⟨fun _ _ _ => Bool.and_comm _ _, fun _ => rfl⟩).mono ?_
        rintro e w117 ⟨rfl, hk⟩
        replace Ha := Lib.hid (Ha.out.keep hk)
        replace Hb := Lib.hid (Hb.out.keep hk)
        replace Hc := Lib.hid (Hc.out.keep hk)
        replace Hy := Lib.hid (Hy.out.keep hk)
        replace Hz := Lib.hid (Hz.out.keep hk)
        replace hKc := hKc.trans hk
        clear hk
        go_wp2
        go_ret
        exact ⟨rfl, hKc⟩
    · cases r
      · clear ht
        go_enter Tryd.func6, Tryd.ntmps6
        go_wp2_with fail
        go_at_call 8
        refine (alive_any _ HT.out).mono ?_
        rintro e w101 ⟨rfl, hk⟩
        replace Ha := Lib.hid (Ha.out.keep hk)
        replace Hb := Lib.hid (Hb.out.keep hk)
        replace Hc := Lib.hid (Hc.out.keep hk)
        replace hKc := hKc.trans hk
        clear hk
        go_wp2_with fail
        go_at_call 9
        refine (few_a Ha.out).mono ?_
        rintro e wfa ⟨rfl, rfl⟩
        rw [HE.out.1]
        go_wp2_with fail
        go_at_call 9
        refine (few_a Hb.out).mono ?_
        rintro e wfb ⟨rfl, rfl⟩
        rw [HE.out.2.1]
        go_wp2_with fail
        go_at_call 9
        refine (few_a Hc.out).mono ?_
        rintro e wfc ⟨rfl, rfl⟩
        rw [HE.out.2.2]
        replace Ha := Lib.hid (Ha.out.area (fewB_yes HE.out.1).1)
        replace Hb := Lib.hid (Hb.out.area (fewB_yes HE.out.2.1).1)
        replace Hc := Lib.hid (Hc.out.area (fewB_yes HE.out.2.2).1)
        go_wp2_with fail
        go_at_call 13
        refine (meet_a Hb.out Hc.out (by decide) (by decide) (by omega)).mono ?_
        rintro e w102 ⟨Am, cm, rfl, hk, hm, hcm⟩
        replace Ha := Lib.hid (Ha.out.keep hk)
        replace Hb := Lib.hid (Hb.out.keep hk)
        replace Hc := Lib.hid (Hc.out.keep hk)
        replace hKc := hKc.trans hk
        clear hk
        have Hm := Lib.hid hm
        clear hm
        go_wp2_with fail
        go_at_call 22
        refine (within_a false Ha.out Hm.out.area (by decide) (by decide) (by omega) (by have h := HP.out; rw [sub_meet, ← h.1.iff, ← h.2.1.iff]; decide)).mono ?_
        rintro e w103 ⟨rfl, hk⟩
        replace Ha := Lib.hid (Ha.out.keep hk)
        replace Hb := Lib.hid (Hb.out.keep hk)
        replace Hc := Lib.hid (Hc.out.keep hk)
        replace Hm := Lib.hid (Hm.out.keep hk)
        replace hKc := hKc.trans hk
        clear hk
        clear Hm
        go_wp2_with fail
        go_at_call 22
        refine (within_a false Ha.out Hb.out (by decide) (by decide) (by omega) (by have h := HP.out; exact h.1.iff)).mono ?_
        rintro e w104 ⟨rfl, hk⟩
        replace Ha := Lib.hid (Ha.out.keep hk)
        replace Hb := Lib.hid (Hb.out.keep hk)
        replace Hc := Lib.hid (Hc.out.keep hk)
        replace hKc := hKc.trans hk
        clear hk
        go_wp2_with fail
        go_at_call 12
        refine (union_a Ha.out Hb.out (by decide) (by decide) (by omega)).mono ?_
        rintro e w105 ⟨Au, cu, rfl, hk, hu, hcu⟩
        replace Ha := Lib.hid (Ha.out.keep hk)
        replace Hb := Lib.hid (Hb.out.keep hk)
        replace Hc := Lib.hid (Hc.out.keep hk)
        replace hKc := hKc.trans hk
        clear hk
        have Hu := Lib.hid hu
        clear hu
        go_wp2_with fail
        go_at_call 22
        refine (within_a false Hu.out.area Hc.out (by decide) (by decide) (by omega) (by have h := HP.out; rw [sub_union, ← h.2.1.iff, ← h.2.2.iff]; decide)).mono ?_
        rintro e w106 ⟨rfl, hk⟩
        replace Ha := Lib.hid (Ha.out.keep hk)
        replace Hb := Lib.hid (Hb.out.keep hk)
        replace Hc := Lib.hid (Hc.out.keep hk)
        replace Hu := Lib.hid (Hu.out.keep hk)
        replace hKc := hKc.trans hk
        clear hk
        clear Hu
        go_wp2_with fail
        go_at_call 22
        refine (within_a true Ha.out Hc.out (by decide) (by decide) (by omega) (by have h := HP.out; exact h.2.1.iff)).mono ?_
        rintro e w107 ⟨rfl, hk⟩
        replace Ha := Lib.hid (Ha.out.keep hk)
        replace Hb := Lib.hid (Hb.out.keep hk)
        replace Hc := Lib.hid (Hc.out.keep hk)
        replace hKc := hKc.trans hk
        clear hk
        go_wp2_with fail
        go_at_call 22
        refine (within_a false Hb.out Hc.out (by decide) (by decide) (by omega) (by have h := HP.out; exact h.2.2.iff)).mono ?_
        rintro e w108 ⟨rfl, hk⟩
        replace Ha := Lib.hid (Ha.out.keep hk)
        replace Hb := Lib.hid (Hb.out.keep hk)
        replace Hc := Lib.hid (Hc.out.keep hk)
        replace hKc := hKc.trans hk
        clear hk
        go_wp2_with fail
        go_at_call 22
        refine (within_a false Ha.out Hb.out (by decide) (by decide) (by omega) (by have h := HP.out; exact h.1.iff)).mono ?_
        rintro e w109 ⟨rfl, hk⟩
        replace Ha := Lib.hid (Ha.out.keep hk)
        replace Hb := Lib.hid (Hb.out.keep hk)
        replace Hc := Lib.hid (Hc.out.keep hk)
        replace hKc := hKc.trans hk
        clear hk
        go_wp2_with fail
        go_at_call 13
        refine (meet_a Ha.out Hb.out (by decide) (by decide) (by omega)).mono ?_
        rintro e w110 ⟨An, cn, rfl, hk, hn, hcn⟩
        replace Ha := Lib.hid (Ha.out.keep hk)
        replace Hb := Lib.hid (Hb.out.keep hk)
        replace Hc := Lib.hid (Hc.out.keep hk)
        replace hKc := hKc.trans hk
        clear hk
        have Hn := Lib.hid hn
        clear hn
        go_wp2_with fail
        go_at_call 12
        refine (union_a Hb.out Hc.out (by decide) (by decide) (by omega)).mono ?_
        rintro e w111 ⟨Av, cv, rfl, hk, hv, hcv⟩
        replace Ha := Lib.hid (Ha.out.keep hk)
        replace Hb := Lib.hid (Hb.out.keep hk)
        replace Hc := Lib.hid (Hc.out.keep hk)
        replace Hn := Lib.hid (Hn.out.keep hk)
        replace hKc := hKc.trans hk
        clear hk
        have Hv := Lib.hid hv
        clear hv
        go_wp2_with fail
        go_at_call 22
        refine (within_a true Hn.out.area Hv.out.area (by decide) (by decide) (by omega) (by have h := HP.out; exact ⟨fun _ => sub_mu _ _ _, fun _ => rfl⟩)).mono ?_
        rintro e w112 ⟨rfl, hk⟩
        replace Ha := Lib.hid (Ha.out.keep hk)
        replace Hb := Lib.hid (Hb.out.keep hk)
        replace Hc := Lib.hid (Hc.out.keep hk)
        replace Hn := Lib.hid (Hn.out.keep hk)
        replace Hv := Lib.hid (Hv.out.keep hk)
        replace hKc := hKc.trans hk
        clear hk
        clear Hn
        clear Hv
        go_wp2_with fail
        go_at_call 12
        refine (union_a Ha.out Hb.out (by decide) (by decide) (by omega)).mono ?_
        rintro e w113 ⟨As, cs, rfl, hk, hs, hcs⟩
        replace Ha := Lib.hid (Ha.out.keep hk)
        replace Hb := Lib.hid (Hb.out.keep hk)
        replace Hc := Lib.hid (Hc.out.keep hk)
        replace hKc := hKc.trans hk
        clear hk
        have Hs := Lib.hid hs
        clear hs
        go_wp2_with fail
        go_at_call 12
        refine (union_a Hb.out Ha.out (by decide) (by decide) (by omega)).mono ?_
        rintro e w114 ⟨At, ct, rfl, hk, ht, hct⟩
        replace Ha := Lib.hid (Ha.out.keep hk)
        replace Hb := Lib.hid (Hb.out.keep hk)
        replace Hc := Lib.hid (Hc.out.keep hk)
        replace Hs := Lib.hid (Hs.out.keep hk)
        replace hKc := hKc.trans hk
        clear hk
        have Ht := Lib.hid ht
        clear ht
        go_wp2_with fail
        go_at_call 24
        refine (same_a true Hs.out.area Ht.out.area (by decide) (by decide) (by omega) ⟨fun _ _ _ => Bool.or_comm _ _, fun _ => rfl⟩).mono ?_
        rintro e w115 ⟨rfl, hk⟩
        replace Ha := Lib.hid (Ha.out.keep hk)
        replace Hb := Lib.hid (Hb.out.keep hk)
        replace Hc := Lib.hid (Hc.out.keep hk)
        replace Hs := Lib.hid (Hs.out.keep hk)
        replace Ht := Lib.hid (Ht.out.keep hk)
        replace hKc := hKc.trans hk
        clear hk
        clear Hs
        clear Ht
        go_wp2_with fail
        go_at_call 13
        refine (meet_a Ha.out Hb.out (by decide) (by decide) (by omega)).mono ?_
        rintro e w116 ⟨Ay, cy, rfl, hk, hy, hcy⟩
        replace Ha := Lib.hid (Ha.out.keep hk)
        replace Hb := Lib.hid (Hb.out.keep hk)
        replace Hc := Lib.hid (Hc.out.keep hk)
        replace hKc := hKc.trans hk
        clear hk
        have Hy := Lib.hid hy
        clear hy
        go_wp2_with fail
        go_at_call 13
        refine (meet_a Hb.out Ha.out (by decide) (by decide) (by omega)).mono ?_
        rintro e w117 ⟨Az, cz, rfl, hk, hz, hcz⟩
        replace Ha := Lib.hid (Ha.out.keep hk)
        replace Hb := Lib.hid (Hb.out.keep hk)
        replace Hc := Lib.hid (Hc.out.keep hk)
        replace Hy := Lib.hid (Hy.out.keep hk)
        replace hKc := hKc.trans hk
        clear hk
        have Hz := Lib.hid hz
        clear hz
        go_wp2_with fail
        go_at_call 24
        refine (same_a true Hy.out.area Hz.out.area (by decide) (by decide) (by omega) ⟨fun _ _ _ => Bool.and_comm _ _, fun _ => rfl⟩).mono ?_
        rintro e w118 ⟨rfl, hk⟩
        replace Ha := Lib.hid (Ha.out.keep hk)
        replace Hb := Lib.hid (Hb.out.keep hk)
        replace Hc := Lib.hid (Hc.out.keep hk)
        replace Hy := Lib.hid (Hy.out.keep hk)
        replace Hz := Lib.hid (Hz.out.keep hk)
        replace hKc := hKc.trans hk
        clear hk
        go_wp2
        go_ret
        exact ⟨rfl, hKc⟩
      · clear ht
        go_enter Tryd.func6, Tryd.ntmps6
        go_wp2_with fail
        go_at_call 8
        refine (alive_any _ HT.out).mono ?_
        rintro e w101 ⟨rfl, hk⟩
        replace Ha := Lib.hid (Ha.out.keep hk)
        replace Hb := Lib.hid (Hb.out.keep hk)
        replace Hc := Lib.hid (Hc.out.keep hk)
        replace hKc := hKc.trans hk
        clear hk
        go_wp2_with fail
        go_at_call 9
        refine (few_a Ha.out).mono ?_
        rintro e wfa ⟨rfl, rfl⟩
        rw [HE.out.1]
        go_wp2_with fail
        go_at_call 9
        refine (few_a Hb.out).mono ?_
        rintro e wfb ⟨rfl, rfl⟩
        rw [HE.out.2.1]
        go_wp2_with fail
        go_at_call 9
        refine (few_a Hc.out).mono ?_
        rintro e wfc ⟨rfl, rfl⟩
        rw [HE.out.2.2]
        replace Ha := Lib.hid (Ha.out.area (fewB_yes HE.out.1).1)
        replace Hb := Lib.hid (Hb.out.area (fewB_yes HE.out.2.1).1)
        replace Hc := Lib.hid (Hc.out.area (fewB_yes HE.out.2.2).1)
        go_wp2_with fail
        go_at_call 13
        refine (meet_a Hb.out Hc.out (by decide) (by decide) (by omega)).mono ?_
        rintro e w102 ⟨Am, cm, rfl, hk, hm, hcm⟩
        replace Ha := Lib.hid (Ha.out.keep hk)
        replace Hb := Lib.hid (Hb.out.keep hk)
        replace Hc := Lib.hid (Hc.out.keep hk)
        replace hKc := hKc.trans hk
        clear hk
        have Hm := Lib.hid hm
        clear hm
        go_wp2_with fail
        go_at_call 22
        refine (within_a false Ha.out Hm.out.area (by decide) (by decide) (by omega) (by have h := HP.out; rw [sub_meet, ← h.1.iff, ← h.2.1.iff]; decide)).mono ?_
        rintro e w103 ⟨rfl, hk⟩
        replace Ha := Lib.hid (Ha.out.keep hk)
        replace Hb := Lib.hid (Hb.out.keep hk)
        replace Hc := Lib.hid (Hc.out.keep hk)
        replace Hm := Lib.hid (Hm.out.keep hk)
        replace hKc := hKc.trans hk
        clear hk
        clear Hm
        go_wp2_with fail
        go_at_call 22
        refine (within_a false Ha.out Hb.out (by decide) (by decide) (by omega) (by have h := HP.out; exact h.1.iff)).mono ?_
        rintro e w104 ⟨rfl, hk⟩
        replace Ha := Lib.hid (Ha.out.keep hk)
        replace Hb := Lib.hid (Hb.out.keep hk)
        replace Hc := Lib.hid (Hc.out.keep hk)
        replace hKc := hKc.trans hk
        clear hk
        go_wp2_with fail
        go_at_call 12
        refine (union_a Ha.out Hb.out (by decide) (by decide) (by omega)).mono ?_
        rintro e w105 ⟨Au, cu, rfl, hk, hu, hcu⟩
        replace Ha := Lib.hid (Ha.out.keep hk)
        replace Hb := Lib.hid (Hb.out.keep hk)
        replace Hc := Lib.hid (Hc.out.keep hk)
        replace hKc := hKc.trans hk
        clear hk
        have Hu := Lib.hid hu
        clear hu
        go_wp2_with fail
        go_at_call 22
        refine (within_a true Hu.out.area Hc.out (by decide) (by decide) (by omega) (by have h := HP.out; rw [sub_union, ← h.2.1.iff, ← h.2.2.iff]; decide)).mono ?_
        rintro e w106 ⟨rfl, hk⟩
        replace Ha := Lib.hid (Ha.out.keep hk)
        replace Hb := Lib.hid (Hb.out.keep hk)
        replace Hc := Lib.hid (Hc.out.keep hk)
        replace Hu := Lib.hid (Hu.out.keep hk)
        replace hKc := hKc.trans hk
        clear hk
        clear Hu
        go_wp2_with fail
        go_at_call 22
        refine (within_a true Ha.out Hc.out (by decide) (by decide) (by omega) (by have h := HP.out; exact h.2.1.iff)).mono ?_
        rintro e w107 ⟨rfl, hk⟩
        replace Ha := Lib.hid (Ha.out.keep hk)
        replace Hb := Lib.hid (Hb.out.keep hk)
        replace Hc := Lib.hid (Hc.out.keep hk)
        replace hKc := hKc.trans hk
        clear hk
        go_wp2_with fail
        go_at_call 22
        refine (within_a true Hb.out Hc.out (by decide) (by decide) (by omega) (by have h := HP.out; exact h.2.2.iff)).mono ?_
        rintro e w108 ⟨rfl, hk⟩
        replace Ha := Lib.hid (Ha.out.keep hk)
        replace Hb := Lib.hid (Hb.out.keep hk)
        replace Hc := Lib.hid (Hc.out.keep hk)
        replace hKc := hKc.trans hk
        clear hk
        go_wp2_with fail
        go_at_call 22
        refine (within_a false Ha.out Hb.out (by decide) (by decide) (by omega) (by have h := HP.out; exact h.1.iff)).mono ?_
        rintro e w109 ⟨rfl, hk⟩
        replace Ha := Lib.hid (Ha.out.keep hk)
        replace Hb := Lib.hid (Hb.out.keep hk)
        replace Hc := Lib.hid (Hc.out.keep hk)
        replace hKc := hKc.trans hk
        clear hk
        go_wp2_with fail
        go_at_call 13
        refine (meet_a Ha.out Hb.out (by decide) (by decide) (by omega)).mono ?_
        rintro e w110 ⟨An, cn, rfl, hk, hn, hcn⟩
        replace Ha := Lib.hid (Ha.out.keep hk)
        replace Hb := Lib.hid (Hb.out.keep hk)
        replace Hc := Lib.hid (Hc.out.keep hk)
        replace hKc := hKc.trans hk
        clear hk
        have Hn := Lib.hid hn
        clear hn
        go_wp2_with fail
        go_at_call 12
        refine (union_a Hb.out Hc.out (by decide) (by decide) (by omega)).mono ?_
        rintro e w111 ⟨Av, cv, rfl, hk, hv, hcv⟩
        replace Ha := Lib.hid (Ha.out.keep hk)
        replace Hb := Lib.hid (Hb.out.keep hk)
        replace Hc := Lib.hid (Hc.out.keep hk)
        replace Hn := Lib.hid (Hn.out.keep hk)
        replace hKc := hKc.trans hk
        clear hk
        have Hv := Lib.hid hv
        clear hv
        go_wp2_with fail
        go_at_call 22
        refine (within_a true Hn.out.area Hv.out.area (by decide) (by decide) (by omega) (by have h := HP.out; exact ⟨fun _ => sub_mu _ _ _, fun _ => rfl⟩)).mono ?_
        rintro e w112 ⟨rfl, hk⟩
        replace Ha := Lib.hid (Ha.out.keep hk)
        replace Hb := Lib.hid (Hb.out.keep hk)
        replace Hc := Lib.hid (Hc.out.keep hk)
        replace Hn := Lib.hid (Hn.out.keep hk)
        replace Hv := Lib.hid (Hv.out.keep hk)
        replace hKc := hKc.trans hk
        clear hk
        clear Hn
        clear Hv
        go_wp2_with fail
        go_at_call 12
        refine (union_a Ha.out Hb.out (by decide) (by decide) (by omega)).mono ?_
        rintro e w113 ⟨As, cs, rfl, hk, hs, hcs⟩
        replace Ha := Lib.hid (Ha.out.keep hk)
        replace Hb := Lib.hid (Hb.out.keep hk)
        replace Hc := Lib.hid (Hc.out.keep hk)
        replace hKc := hKc.trans hk
        clear hk
        have Hs := Lib.hid hs
        clear hs
        go_wp2_with fail
        go_at_call 12
        refine (union_a Hb.out Ha.out (by decide) (by decide) (by omega)).mono ?_
        rintro e w114 ⟨At, ct, rfl, hk, ht, hct⟩
        replace Ha := Lib.hid (Ha.out.keep hk)
        replace Hb := Lib.hid (Hb.out.keep hk)
        replace Hc := Lib.hid (Hc.out.keep hk)
        replace Hs := Lib.hid (Hs.out.keep hk)
        replace hKc := hKc.trans hk
        clear hk
        have Ht := Lib.hid ht
        clear ht
        go_wp2_with fail
        go_at_call 24
        refine (same_a true Hs.out.area Ht.out.area (by decide) (by decide) (by omega) ⟨fun _ _ _ => Bool.or_comm _ _, fun _ => rfl⟩).mono ?_
        rintro e w115 ⟨rfl, hk⟩
        replace Ha := Lib.hid (Ha.out.keep hk)
        replace Hb := Lib.hid (Hb.out.keep hk)
        replace Hc := Lib.hid (Hc.out.keep hk)
        replace Hs := Lib.hid (Hs.out.keep hk)
        replace Ht := Lib.hid (Ht.out.keep hk)
        replace hKc := hKc.trans hk
        clear hk
        clear Hs
        clear Ht
        go_wp2_with fail
        go_at_call 13
        refine (meet_a Ha.out Hb.out (by decide) (by decide) (by omega)).mono ?_
        rintro e w116 ⟨Ay, cy, rfl, hk, hy, hcy⟩
        replace Ha := Lib.hid (Ha.out.keep hk)
        replace Hb := Lib.hid (Hb.out.keep hk)
        replace Hc := Lib.hid (Hc.out.keep hk)
        replace hKc := hKc.trans hk
        clear hk
        have Hy := Lib.hid hy
        clear hy
        go_wp2_with fail
        go_at_call 13
        refine (meet_a Hb.out Ha.out (by decide) (by decide) (by omega)).mono ?_
        rintro e w117 ⟨Az, cz, rfl, hk, hz, hcz⟩
        replace Ha := Lib.hid (Ha.out.keep hk)
        replace Hb := Lib.hid (Hb.out.keep hk)
        replace Hc := Lib.hid (Hc.out.keep hk)
        replace Hy := Lib.hid (Hy.out.keep hk)
        replace hKc := hKc.trans hk
        clear hk
        have Hz := Lib.hid hz
        clear hz
        go_wp2_with fail
        go_at_call 24
        refine (same_a true Hy.out.area Hz.out.area (by decide) (by decide) (by omega) ⟨fun _ _ _ => Bool.and_comm _ _, fun _ => rfl⟩).mono ?_
        rintro e w118 ⟨rfl, hk⟩
        replace Ha := Lib.hid (Ha.out.keep hk)
        replace Hb := Lib.hid (Hb.out.keep hk)
        replace Hc := Lib.hid (Hc.out.keep hk)
        replace Hy := Lib.hid (Hy.out.keep hk)
        replace Hz := Lib.hid (Hz.out.keep hk)
        replace hKc := hKc.trans hk
        clear hk
        go_wp2
        go_ret
        exact ⟨rfl, hKc⟩
  · cases q
    · cases r
      · clear ht
        go_enter Tryd.func6, Tryd.ntmps6
        go_wp2_with fail
        go_at_call 8
        refine (alive_any _ HT.out).mono ?_
        rintro e w101 ⟨rfl, hk⟩
        replace Ha := Lib.hid (Ha.out.keep hk)
        replace Hb := Lib.hid (Hb.out.keep hk)
        replace Hc := Lib.hid (Hc.out.keep hk)
        replace hKc := hKc.trans hk
        clear hk
        go_wp2_with fail
        go_at_call 9
        refine (few_a Ha.out).mono ?_
        rintro e wfa ⟨rfl, rfl⟩
        rw [HE.out.1]
        go_wp2_with fail
        go_at_call 9
        refine (few_a Hb.out).mono ?_
        rintro e wfb ⟨rfl, rfl⟩
        rw [HE.out.2.1]
        go_wp2_with fail
        go_at_call 9
        refine (few_a Hc.out).mono ?_
        rintro e wfc ⟨rfl, rfl⟩
        rw [HE.out.2.2]
        replace Ha := Lib.hid (Ha.out.area (fewB_yes HE.out.1).1)
        replace Hb := Lib.hid (Hb.out.area (fewB_yes HE.out.2.1).1)
        replace Hc := Lib.hid (Hc.out.area (fewB_yes HE.out.2.2).1)
        go_wp2_with fail
        go_at_call 13
        refine (meet_a Hb.out Hc.out (by decide) (by decide) (by omega)).mono ?_
        rintro e w102 ⟨Am, cm, rfl, hk, hm, hcm⟩
        replace Ha := Lib.hid (Ha.out.keep hk)
        replace Hb := Lib.hid (Hb.out.keep hk)
        replace Hc := Lib.hid (Hc.out.keep hk)
        replace hKc := hKc.trans hk
        clear hk
        have Hm := Lib.hid hm
        clear hm
        go_wp2_with fail
        go_at_call 22
        refine (within_a false Ha.out Hm.out.area (by decide) (by decide) (by omega) (by have h := HP.out; rw [sub_meet, ← h.1.iff, ← h.2.1.iff]; decide)).mono ?_
        rintro e w103 ⟨rfl, hk⟩
        replace Ha := Lib.hid (Ha.out.keep hk)
        replace Hb := Lib.hid (Hb.out.keep hk)
        replace Hc := Lib.hid (Hc.out.keep hk)
        replace Hm := Lib.hid (Hm.out.keep hk)
        replace hKc := hKc.trans hk
        clear hk
        clear Hm
        go_wp2_with fail
        go_at_call 22
        refine (within_a true Ha.out Hb.out (by decide) (by decide) (by omega) (by have h := HP.out; exact h.1.iff)).mono ?_
        rintro e w104 ⟨rfl, hk⟩
        replace Ha := Lib.hid (Ha.out.keep hk)
        replace Hb := Lib.hid (Hb.out.keep hk)
        replace Hc := Lib.hid (Hc.out.keep hk)
        replace hKc := hKc.trans hk
        clear hk
        go_wp2_with fail
        go_at_call 22
        refine (within_a false Ha.out Hc.out (by decide) (by decide) (by omega) (by have h := HP.out; exact h.2.1.iff)).mono ?_
        rintro e w105 ⟨rfl, hk⟩
        replace Ha := Lib.hid (Ha.out.keep hk)
        replace Hb := Lib.hid (Hb.out.keep hk)
        replace Hc := Lib.hid (Hc.out.keep hk)
        replace hKc := hKc.trans hk
        clear hk
        go_wp2_with fail
        go_at_call 12
        refine (union_a Ha.out Hb.out (by decide) (by decide) (by omega)).mono ?_
        rintro e w106 ⟨Au, cu, rfl, hk, hu, hcu⟩
        replace Ha := Lib.hid (Ha.out.keep hk)
        replace Hb := Lib.hid (Hb.out.keep hk)
        replace Hc := Lib.hid (Hc.out.keep hk)
        replace hKc := hKc.trans hk
        clear hk
        have Hu := Lib.hid hu
        clear hu
        go_wp2_with fail
        go_at_call 22
        refine (within_a false Hu.out.area Hc.out (by decide) (by decide) (by omega) (by have h := HP.out; rw [sub_union, ← h.2.1.iff, ← h.2.2.iff]; decide)).mono ?_
        rintro e w107 ⟨rfl, hk⟩
        replace Ha := Lib.hid (Ha.out.keep hk)
        replace Hb := Lib.hid (Hb.out.keep hk)
        replace Hc := Lib.hid (Hc.out.keep hk)
        replace Hu := Lib.hid (Hu.out.keep hk)
        replace hKc := hKc.trans hk
        clear hk
        clear Hu
        go_wp2_with fail
        go_at_call 22
        refine (within_a false Ha.out Hc.out (by decide) (by decide) (by omega) (by have h := HP.out; exact h.2.1.iff)).mono ?_
        rintro e w108 ⟨rfl, hk⟩
        replace Ha := Lib.hid (Ha.out.keep hk)
        replace Hb := Lib.hid (Hb.out.keep hk)
        replace Hc := Lib.hid (Hc.out.keep hk)
        replace hKc := hKc.trans hk
        clear hk
        go_wp2_with fail
        go_at_call 22
        refine (within_a true Ha.out Hb.out (by decide) (by decide) (by omega) (by have h := HP.out; exact h.1.iff)).mono ?_
        rintro e w109 ⟨rfl, hk⟩
        replace Ha := Lib.hid (Ha.out.keep hk)
        replace Hb := Lib.hid (Hb.out.keep hk)
        replace Hc := Lib.hid (Hc.out.keep hk)
        replace hKc := hKc.trans hk
        clear hk
        go_wp2_with fail
        go_at_call 22
        refine (within_a false Hb.out Hc.out (by decide) (by decide) (by omega) (by have h := HP.out; exact h.2.2.iff)).mono ?_
        rintro e w110 ⟨rfl, hk⟩
        replace Ha := Lib.hid (Ha.out.keep hk)
        replace Hb := Lib.hid (Hb.out.keep hk)
        replace Hc := Lib.hid (Hc.out.keep hk)
        replace hKc := hKc.trans hk
        clear hk
        go_wp2_with fail
        go_at_call 13
        refine (meet_a Ha.out Hb.out (by decide) (by decide) (by omega)).mono ?_
        rintro e w111 ⟨An, cn, rfl, hk, hn, hcn⟩
        replace Ha := Lib.hid (Ha.out.keep hk)
        replace Hb := Lib.hid (Hb.out.keep hk)
        replace Hc := Lib.hid (Hc.out.keep hk)
        replace hKc := hKc.trans hk
        clear hk
        have Hn := Lib.hid hn
        clear hn
        go_wp2_with fail
        go_at_call 12
        refine (union_a Hb.out Hc.out (by decide) (by decide) (by omega)).mono ?_
        rintro e w112 ⟨Av, cv, rfl, hk, hv, hcv⟩
        replace Ha := Lib.hid (Ha.out.keep hk)
        replace Hb := Lib.hid (Hb.out.keep hk)
        replace Hc := Lib.hid (Hc.out.keep hk)
        replace Hn := Lib.hid (Hn.out.keep hk)
        replace hKc := hKc.trans hk
        clear hk
        have Hv := Lib.hid hv
        clear hv
        go_wp2_with fail
        go_at_call 22
        refine (within_a true Hn.out.area Hv.out.area (by decide) (by decide) (by omega) (by have h := HP.out; exact ⟨fun _ => sub_mu _ _ _, fun _ => rfl⟩)).mono ?_
        rintro e w113 ⟨rfl, hk⟩
        replace Ha := Lib.hid (Ha.out.keep hk)
        replace Hb := Lib.hid (Hb.out.keep hk)
        replace Hc := Lib.hid (Hc.out.keep hk)
        replace Hn := Lib.hid (Hn.out.keep hk)
        replace Hv := Lib.hid (Hv.out.keep hk)
        replace hKc := hKc.trans hk
        clear hk
        clear Hn
        clear Hv
        go_wp2_with fail
        go_at_call 12
        refine (union_a Ha.out Hb.out (by decide) (by decide) (by omega)).mono ?_
        rintro e w114 ⟨As, cs, rfl, hk, hs, hcs⟩
        replace Ha := Lib.hid (Ha.out.keep hk)
        replace Hb := Lib.hid (Hb.out.keep hk)
        replace Hc := Lib.hid (Hc.out.keep hk)
        replace hKc := hKc.trans hk
        clear hk
        have Hs := Lib.hid hs
        clear hs
        go_wp2_with fail
        go_at_call 12
        refine (union_a Hb.out Ha.out (by decide) (by decide) (by omega)).mono ?_
        rintro e w115 ⟨At, ct, rfl, hk, ht, hct⟩
        replace Ha := Lib.hid (Ha.out.keep hk)
        replace Hb := Lib.hid (Hb.out.keep hk)
        replace Hc := Lib.hid (Hc.out.keep hk)
        replace Hs := Lib.hid (Hs.out.keep hk)
        replace hKc := hKc.trans hk
        clear hk
        have Ht := Lib.hid ht
        clear ht
        go_wp2_with fail
        go_at_call 24
        refine (same_a true Hs.out.area Ht.out.area (by decide) (by decide) (by omega) ⟨fun _ _ _ => Bool.or_comm _ _, fun _ => rfl⟩).mono ?_
        rintro e w116 ⟨rfl, hk⟩
        replace Ha := Lib.hid (Ha.out.keep hk)
        replace Hb := Lib.hid (Hb.out.keep hk)
        replace Hc := Lib.hid (Hc.out.keep hk)
        replace Hs := Lib.hid (Hs.out.keep hk)
        replace Ht := Lib.hid (Ht.out.keep hk)
        replace hKc := hKc.trans hk
        clear hk
        clear Hs
        clear Ht
        go_wp2_with fail
        go_at_call 13
        refine (meet_a Ha.out Hb.out (by decide) (by decide) (by omega)).mono ?_
        rintro e w117 ⟨Ay, cy, rfl, hk, hy, hcy⟩
        replace Ha := Lib.hid (Ha.out.keep hk)
        replace Hb := Lib.hid (Hb.out.keep hk)
        replace Hc := Lib.hid (Hc.out.keep hk)
        replace hKc := hKc.trans hk
        clear hk
        have Hy := Lib.hid hy
        clear hy
        go_wp2_with fail
        go_at_call 13
        refine (meet_a Hb.out Ha.out (by decide) (by decide) (by omega)).mono ?_
        rintro e w118 ⟨Az, cz, rfl, hk, hz, hcz⟩
        replace Ha := Lib.hid (Ha.out.keep hk)
        replace Hb := Lib.hid (Hb.out.keep hk)
        replace Hc := Lib.hid (Hc.out.keep hk)
        replace Hy := Lib.hid (Hy.out.keep hk)
        replace hKc := hKc.trans hk
        clear hk
        have Hz := Lib.hid hz
        clear hz
        go_wp2_with fail
        go_at_call 24
        refine (same_a true Hy.out.area Hz.out.area (by decide) (by decide) (by omega) ⟨fun _ _ _ => Bool.and_comm _ _, fun _ => rfl⟩).mono ?_
        rintro e w119 ⟨rfl, hk⟩
        replace Ha := Lib.hid (Ha.out.keep hk)
        replace Hb := Lib.hid (Hb.out.keep hk)
        replace Hc := Lib.hid (Hc.out.keep hk)
        replace Hy := Lib.hid (Hy.out.keep hk)
        replace Hz := Lib.hid (Hz.out.keep hk)
        replace hKc := hKc.trans hk
        clear hk
        go_wp2
        go_ret
        exact ⟨rfl, hKc⟩
      · exact absurd (ht rfl rfl) (by decide)
    · cases r
      · clear ht
        go_enter Tryd.func6, Tryd.ntmps6
        go_wp2_with fail
        go_at_call 8
        refine (alive_any _ HT.out).mono ?_
        rintro e w101 ⟨rfl, hk⟩
        replace Ha := Lib.hid (Ha.out.keep hk)
        replace Hb := Lib.hid (Hb.out.keep hk)
        replace Hc := Lib.hid (Hc.out.keep hk)
        replace hKc := hKc.trans hk
        clear hk
        go_wp2_with fail
        go_at_call 9
        refine (few_a Ha.out).mono ?_
        rintro e wfa ⟨rfl, rfl⟩
        rw [HE.out.1]
        go_wp2_with fail
        go_at_call 9
        refine (few_a Hb.out).mono ?_
        rintro e wfb ⟨rfl, rfl⟩
        rw [HE.out.2.1]
        go_wp2_with fail
        go_at_call 9
        refine (few_a Hc.out).mono ?_
        rintro e wfc ⟨rfl, rfl⟩
        rw [HE.out.2.2]
        replace Ha := Lib.hid (Ha.out.area (fewB_yes HE.out.1).1)
        replace Hb := Lib.hid (Hb.out.area (fewB_yes HE.out.2.1).1)
        replace Hc := Lib.hid (Hc.out.area (fewB_yes HE.out.2.2).1)
        go_wp2_with fail
        go_at_call 13
        refine (meet_a Hb.out Hc.out (by decide) (by decide) (by omega)).mono ?_
        rintro e w102 ⟨Am, cm, rfl, hk, hm, hcm⟩
        replace Ha := Lib.hid (Ha.out.keep hk)
        replace Hb := Lib.hid (Hb.out.keep hk)
        replace Hc := Lib.hid (Hc.out.keep hk)
        replace hKc := hKc.trans hk
        clear hk
        have Hm := Lib.hid hm
        clear hm
        go_wp2_with fail
        go_at_call 22
        refine (within_a true Ha.out Hm.out.area (by decide) (by decide) (by omega) (by have h := HP.out; rw [sub_meet, ← h.1.iff, ← h.2.1.iff]; decide)).mono ?_
        rintro e w103 ⟨rfl, hk⟩
        replace Ha := Lib.hid (Ha.out.keep hk)
        replace Hb := Lib.hid (Hb.out.keep hk)
        replace Hc := Lib.hid (Hc.out.keep hk)
        replace Hm := Lib.hid (Hm.out.keep hk)
        replace hKc := hKc.trans hk
        clear hk
        clear Hm
        go_wp2_with fail
        go_at_call 22
        refine (within_a true Ha.out Hb.out (by decide) (by decide) (by omega) (by have h := HP.out; exact h.1.iff)).mono ?_
        rintro e w104 ⟨rfl, hk⟩
        replace Ha := Lib.hid (Ha.out.keep hk)
        replace Hb := Lib.hid (Hb.out.keep hk)
        replace Hc := Lib.hid (Hc.out.keep hk)
        replace hKc := hKc.trans hk
        clear hk
        go_wp2_with fail
        go_at_call 22
        refine (within_a true Ha.out Hc.out (by decide) (by decide) (by omega) (by have h := HP.out; exact h.2.1.iff)).mono ?_
        rintro e w105 ⟨rfl, hk⟩
        replace Ha := Lib.hid (Ha.out.keep hk)
        replace Hb := Lib.hid (Hb.out.keep hk)
        replace Hc := Lib.hid (Hc.out.keep hk)
        replace hKc := hKc.trans hk
        clear hk
        go_wp2_with fail
        go_at_call 12
        refine (union_a Ha.out Hb.out (by decide) (by decide) (by omega)).mono ?_
        rintro e w106 ⟨Au, cu, rfl, hk, hu, hcu⟩
        replace Ha := Lib.hid (Ha.out.keep hk)
        replace Hb := Lib.hid (Hb.out.keep hk)
        replace Hc := Lib.hid (Hc.out.keep hk)
        replace hKc := hKc.trans hk
        clear hk
        have Hu := Lib.hid hu
        clear hu
        go_wp2_with fail
        go_at_call 22
        refine (within_a false Hu.out.area Hc.out (by decide) (by decide) (by omega) (by have h := HP.out; rw [sub_union, ← h.2.1.iff, ← h.2.2.iff]; decide)).mono ?_
        rintro e w107 ⟨rfl, hk⟩
        replace Ha := Lib.hid (Ha.out.keep hk)
        replace Hb := Lib.hid (Hb.out.keep hk)
        replace Hc := Lib.hid (Hc.out.keep hk)
        replace Hu := Lib.hid (Hu.out.keep hk)
        replace hKc := hKc.trans hk
        clear hk
        clear Hu
        go_wp2_with fail
        go_at_call 22
        refine (within_a true Ha.out Hc.out (by decide) (by decide) (by omega) (by have h := HP.out; exact h.2.1.iff)).mono ?_
        rintro e w108 ⟨rfl, hk⟩
        replace Ha := Lib.hid (Ha.out.keep hk)
        replace Hb := Lib.hid (Hb.out.keep hk)
        replace Hc := Lib.hid (Hc.out.keep hk)
        replace hKc := hKc.trans hk
        clear hk
        go_wp2_with fail
        go_at_call 22
        refine (within_a false Hb.out Hc.out (by decide) (by decide) (by omega) (by have h := HP.out; exact h.2.2.iff)).mono ?_
        rintro e w109 ⟨rfl, hk⟩
        replace Ha := Lib.hid (Ha.out.keep hk)
        replace Hb := Lib.hid (Hb.out.keep hk)
        replace Hc := Lib.hid (Hc.out.keep hk)
        replace hKc := hKc.trans hk
        clear hk
        go_wp2_with fail
        go_at_call 22
        refine (within_a true Ha.out Hb.out (by decide) (by decide) (by omega) (by have h := HP.out; exact h.1.iff)).mono ?_
        rintro e w110 ⟨rfl, hk⟩
        replace Ha := Lib.hid (Ha.out.keep hk)
        replace Hb := Lib.hid (Hb.out.keep hk)
        replace Hc := Lib.hid (Hc.out.keep hk)
        replace hKc := hKc.trans hk
        clear hk
        go_wp2_with fail
        go_at_call 22
        refine (within_a false Hb.out Hc.out (by decide) (by decide) (by omega) (by have h := HP.out; exact h.2.2.iff)).mono ?_
        rintro e w111 ⟨rfl, hk⟩
        replace Ha := Lib.hid (Ha.out.keep hk)
        replace Hb := Lib.hid (Hb.out.keep hk)
        replace Hc := Lib.hid (Hc.out.keep hk)
        replace hKc := hKc.trans hk
        clear hk
        go_wp2_with fail
        go_at_call 13
        refine (meet_a Ha.out Hb.out (by decide) (by decide) (by omega)).mono ?_
        rintro e w112 ⟨An, cn, rfl, hk, hn, hcn⟩
        replace Ha := Lib.hid (Ha.out.keep hk)
        replace Hb := Lib.hid (Hb.out.keep hk)
        replace Hc := Lib.hid (Hc.out.keep hk)
        replace hKc := hKc.trans hk
        clear hk
        have Hn := Lib.hid hn
        clear hn
        go_wp2_with fail
        go_at_call 12
        refine (union_a Hb.out Hc.out (by decide) (by decide) (by omega)).mono ?_
        rintro e w113 ⟨Av, cv, rfl, hk, hv, hcv⟩
        replace Ha := Lib.hid (Ha.out.keep hk)
        replace Hb := Lib.hid (Hb.out.keep hk)
        replace Hc := Lib.hid (Hc.out.keep hk)
        replace Hn := Lib.hid (Hn.out.keep hk)
        replace hKc := hKc.trans hk
        clear hk
        have Hv := Lib.hid hv
        clear hv
        go_wp2_with fail
        go_at_call 22
        refine (within_a true Hn.out.area Hv.out.area (by decide) (by decide) (by omega) (by have h := HP.out; exact ⟨fun _ => sub_mu _ _ _, fun _ => rfl⟩)).mono ?_
        rintro e w114 ⟨rfl, hk⟩
        replace Ha := Lib.hid (Ha.out.keep hk)
        replace Hb := Lib.hid (Hb.out.keep hk)
        replace Hc := Lib.hid (Hc.out.keep hk)
        replace Hn := Lib.hid (Hn.out.keep hk)
        replace Hv := Lib.hid (Hv.out.keep hk)
        replace hKc := hKc.trans hk
        clear hk
        clear Hn
        clear Hv
        go_wp2_with fail
        go_at_call 12
        refine (union_a Ha.out Hb.out (by decide) (by decide) (by omega)).mono ?_
        rintro e w115 ⟨As, cs, rfl, hk, hs, hcs⟩
        replace Ha := Lib.hid (Ha.out.keep hk)
        replace Hb := Lib.hid (Hb.out.keep hk)
        replace Hc := Lib.hid (Hc.out.keep hk)
        replace hKc := hKc.trans hk
        clear hk
        have Hs := Lib.hid hs
        clear hs
        go_wp2_with fail
        go_at_call 12
        refine (union_a Hb.out Ha.out (by decide) (by decide) (by omega)).mono ?_
        rintro e w116 ⟨At, ct, rfl, hk, ht, hct⟩
        replace Ha := Lib.hid (Ha.out.keep hk)
        replace Hb := Lib.hid (Hb.out.keep hk)
        replace Hc := Lib.hid (Hc.out.keep hk)
        replace Hs := Lib.hid (Hs.out.keep hk)
        replace hKc := hKc.trans hk
        clear hk
        have Ht := Lib.hid ht
        clear ht
        go_wp2_with fail
        go_at_call 24
        refine (same_a true Hs.out.area Ht.out.area (by decide) (by decide) (by omega) ⟨fun _ _ _ => Bool.or_comm _ _, fun _ => rfl⟩).mono ?_
        rintro e w117 ⟨rfl, hk⟩
        replace Ha := Lib.hid (Ha.out.keep hk)
        replace Hb := Lib.hid (Hb.out.keep hk)
        replace Hc := Lib.hid (Hc.out.keep hk)
        replace Hs := Lib.hid (Hs.out.keep hk)
        replace Ht := Lib.hid (Ht.out.keep hk)
        replace hKc := hKc.trans hk
        clear hk
        clear Hs
        clear Ht
        go_wp2_with fail
        go_at_call 13
        refine (meet_a Ha.out Hb.out (by decide) (by decide) (by omega)).mono ?_
        rintro e w118 ⟨Ay, cy, rfl, hk, hy, hcy⟩
        replace Ha := Lib.hid (Ha.out.keep hk)
        replace Hb := Lib.hid (Hb.out.keep hk)
        replace Hc := Lib.hid (Hc.out.keep hk)
        replace hKc := hKc.trans hk
        clear hk
        have Hy := Lib.hid hy
        clear hy
        go_wp2_with fail
        go_at_call 13
        refine (meet_a Hb.out Ha.out (by decide) (by decide) (by omega)).mono ?_
        rintro e w119 ⟨Az, cz, rfl, hk, hz, hcz⟩
        replace Ha := Lib.hid (Ha.out.keep hk)
        replace Hb := Lib.hid (Hb.out.keep hk)
        replace Hc := Lib.hid (Hc.out.keep hk)
        replace Hy := Lib.hid (Hy.out.keep hk)
        replace hKc := hKc.trans hk
        clear hk
        have Hz := Lib.hid hz
        clear hz
        go_wp2_with fail
        go_at_call 24
        refine (same_a true Hy.out.area Hz.out.area (by decide) (by decide) (by omega) ⟨fun _ _ _ => Bool.and_comm _ _, fun _ => rfl⟩).mono ?_
        rintro e w120 ⟨rfl, hk⟩
        replace Ha := Lib.hid (Ha.out.keep hk)
        replace Hb := Lib.hid (Hb.out.keep hk)
        replace Hc := Lib.hid (Hc.out.keep hk)
        replace Hy := Lib.hid (Hy.out.keep hk)
        replace Hz := Lib.hid (Hz.out.keep hk)
        replace hKc := hKc.trans hk
        clear hk
        go_wp2
        go_ret
        exact ⟨rfl, hKc⟩
      · clear ht
        go_enter Tryd.func6, Tryd.ntmps6
        go_wp2_with fail
        go_at_call 8
        refine (alive_any _ HT.out).mono ?_
        rintro e w101 ⟨rfl, hk⟩
        replace Ha := Lib.hid (Ha.out.keep hk)
        replace Hb := Lib.hid (Hb.out.keep hk)
        replace Hc := Lib.hid (Hc.out.keep hk)
        replace hKc := hKc.trans hk
        clear hk
        go_wp2_with fail
        go_at_call 9
        refine (few_a Ha.out).mono ?_
        rintro e wfa ⟨rfl, rfl⟩
        rw [HE.out.1]
        go_wp2_with fail
        go_at_call 9
        refine (few_a Hb.out).mono ?_
        rintro e wfb ⟨rfl, rfl⟩
        rw [HE.out.2.1]
        go_wp2_with fail
        go_at_call 9
        refine (few_a Hc.out).mono ?_
        rintro e wfc ⟨rfl, rfl⟩
        rw [HE.out.2.2]
        replace Ha := Lib.hid (Ha.out.area (fewB_yes HE.out.1).1)
        replace Hb := Lib.hid (Hb.out.area (fewB_yes HE.out.2.1).1)
        replace Hc := Lib.hid (Hc.out.area (fewB_yes HE.out.2.2).1)
        go_wp2_with fail
        go_at_call 13
        refine (meet_a Hb.out Hc.out (by decide) (by decide) (by omega)).mono ?_
        rintro e w102 ⟨Am, cm, rfl, hk, hm, hcm⟩
        replace Ha := Lib.hid (Ha.out.keep hk)
        replace Hb := Lib.hid (Hb.out.keep hk)
        replace Hc := Lib.hid (Hc.out.keep hk)
        replace hKc := hKc.trans hk
        clear hk
        have Hm := Lib.hid hm
        clear hm
        go_wp2_with fail
        go_at_call 22
        refine (within_a true Ha.out Hm.out.area (by decide) (by decide) (by omega) (by have h := HP.out; rw [sub_meet, ← h.1.iff, ← h.2.1.iff]; decide)).mono ?_
        rintro e w103 ⟨rfl, hk⟩
        replace Ha := Lib.hid (Ha.out.keep hk)
        replace Hb := Lib.hid (Hb.out.keep hk)
        replace Hc := Lib.hid (Hc.out.keep hk)
        replace Hm := Lib.hid (Hm.out.keep hk)
        replace hKc := hKc.trans hk
        clear hk
        clear Hm
        go_wp2_with fail
        go_at_call 22
        refine (within_a true Ha.out Hb.out (by decide) (by decide) (by omega) (by have h := HP.out; exact h.1.iff)).mono ?_
        rintro e w104 ⟨rfl, hk⟩
        replace Ha := Lib.hid (Ha.out.keep hk)
        replace Hb := Lib.hid (Hb.out.keep hk)
        replace Hc := Lib.hid (Hc.out.keep hk)
        replace hKc := hKc.trans hk
        clear hk
        go_wp2_with fail
        go_at_call 22
        refine (within_a true Ha.out Hc.out (by decide) (by decide) (by omega) (by have h := HP.out; exact h.2.1.iff)).mono ?_
        rintro e w105 ⟨rfl, hk⟩
        replace Ha := Lib.hid (Ha.out.keep hk)
        replace Hb := Lib.hid (Hb.out.keep hk)
        replace Hc := Lib.hid (Hc.out.keep hk)
        replace hKc := hKc.trans hk
        clear hk
        go_wp2_with fail
        go_at_call 12
        refine (union_a Ha.out Hb.out (by decide) (by decide) (by omega)).mono ?_
        rintro e w106 ⟨Au, cu, rfl, hk, hu, hcu⟩
        replace Ha := Lib.hid (Ha.out.keep hk)
        replace Hb := Lib.hid (Hb.out.keep hk)
        replace Hc := Lib.hid (Hc.out.keep hk)
        replace hKc := hKc.trans hk
        clear hk
        have Hu := Lib.hid hu
        clear hu
        go_wp2_with fail
        go_at_call 22
        refine (within_a true Hu.out.area Hc.out (by decide) (by decide) (by omega) (by have h := HP.out; rw [sub_union, ← h.2.1.iff, ← h.2.2.iff]; decide)).mono ?_
        rintro e w107 ⟨rfl, hk⟩
        replace Ha := Lib.hid (Ha.out.keep hk)
        replace Hb := Lib.hid (Hb.out.keep hk)
        replace Hc := Lib.hid (Hc.out.keep hk)
        replace Hu := Lib.hid (Hu.out.keep hk)
        replace hKc := hKc.trans hk
        clear hk
        clear Hu
        go_wp2_with fail
        go_at_call 22
        refine (within_a true Ha.out Hc.out (by decide) (by decide) (by omega) (by have h := HP.out; exact h.2.1.iff)).mono ?_
        rintro e w108 ⟨rfl, hk⟩
        replace Ha := Lib.hid (Ha.out.keep hk)
        replace Hb := Lib.hid (Hb.out.keep hk)
        replace Hc := Lib.hid (Hc.out.keep hk)
        replace hKc := hKc.trans hk
        clear hk
        go_wp2_with fail
        go_at_call 22
        refine (within_a true Hb.out Hc.out (by decide) (by decide) (by omega) (by have h := HP.out; exact h.2.2.iff)).mono ?_
        rintro e w109 ⟨rfl, hk⟩
        replace Ha := Lib.hid (Ha.out.keep hk)
        replace Hb := Lib.hid (Hb.out.keep hk)
        replace Hc := Lib.hid (Hc.out.keep hk)
        replace hKc := hKc.trans hk
        clear hk
        go_wp2_with fail
        go_at_call 22
        refine (within_a true Ha.out Hb.out (by decide) (by decide) (by omega) (by have h := HP.out; exact h.1.iff)).mono ?_
        rintro e w110 ⟨rfl, hk⟩
        replace Ha := Lib.hid (Ha.out.keep hk)
        replace Hb := Lib.hid (Hb.out.keep hk)
        replace Hc := Lib.hid (Hc.out.keep hk)
        replace hKc := hKc.trans hk
        clear hk
        go_wp2_with fail
        go_at_call 22
        refine (within_a true Hb.out Hc.out (by decide) (by decide) (by omega) (by have h := HP.out; exact h.2.2.iff)).mono ?_
        rintro e w111 ⟨rfl, hk⟩
        replace Ha := Lib.hid (Ha.out.keep hk)
        replace Hb := Lib.hid (Hb.out.keep hk)
        replace Hc := Lib.hid (Hc.out.keep hk)
        replace hKc := hKc.trans hk
        clear hk
        go_wp2_with fail
        go_at_call 22
        refine (within_a true Ha.out Hc.out (by decide) (by decide) (by omega) (by have h := HP.out; exact h.2.1.iff)).mono ?_
        rintro e w112 ⟨rfl, hk⟩
        replace Ha := Lib.hid (Ha.out.keep hk)
        replace Hb := Lib.hid (Hb.out.keep hk)
        replace Hc := Lib.hid (Hc.out.keep hk)
        replace hKc := hKc.trans hk
        clear hk
        go_wp2_with fail
        go_at_call 13
        refine (meet_a Ha.out Hb.out (by decide) (by decide) (by omega)).mono ?_
        rintro e w113 ⟨An, cn, rfl, hk, hn, hcn⟩
        replace Ha := Lib.hid (Ha.out.keep hk)
        replace Hb := Lib.hid (Hb.out.keep hk)
        replace Hc := Lib.hid (Hc.out.keep hk)
        replace hKc := hKc.trans hk
        clear hk
        have Hn := Lib.hid hn
        clear hn
        go_wp2_with fail
        go_at_call 12
        refine (union_a Hb.out Hc.out (by decide) (by decide) (by omega)).mono ?_
        rintro e w114 ⟨Av, cv, rfl, hk, hv, hcv⟩
        replace Ha := Lib.hid (Ha.out.keep hk)
        replace Hb := Lib.hid (Hb.out.keep hk)
        replace Hc := Lib.hid (Hc.out.keep hk)
        replace Hn := Lib.hid (Hn.out.keep hk)
        replace hKc := hKc.trans hk
        clear hk
        have Hv := Lib.hid hv
        clear hv
        go_wp2_with fail
        go_at_call 22
        refine (within_a true Hn.out.area Hv.out.area (by decide) (by decide) (by omega) (by have h := HP.out; exact ⟨fun _ => sub_mu _ _ _, fun _ => rfl⟩)).mono ?_
        rintro e w115 ⟨rfl, hk⟩
        replace Ha := Lib.hid (Ha.out.keep hk)
        replace Hb := Lib.hid (Hb.out.keep hk)
        replace Hc := Lib.hid (Hc.out.keep hk)
        replace Hn := Lib.hid (Hn.out.keep hk)
        replace Hv := Lib.hid (Hv.out.keep hk)
        replace hKc := hKc.trans hk
        clear hk
        clear Hn
        clear Hv
        go_wp2_with fail
        go_at_call 12
        refine (union_a Ha.out Hb.out (by decide) (by decide) (by omega)).mono ?_
        rintro e w116 ⟨As, cs, rfl, hk, hs, hcs⟩
        replace Ha := Lib.hid (Ha.out.keep hk)
        replace Hb := Lib.hid (Hb.out.keep hk)
        replace Hc := Lib.hid (Hc.out.keep hk)
        replace hKc := hKc.trans hk
        clear hk
        have Hs := Lib.hid hs
        clear hs
        go_wp2_with fail
        go_at_call 12
        refine (union_a Hb.out Ha.out (by decide) (by decide) (by omega)).mono ?_
        rintro e w117 ⟨At, ct, rfl, hk, ht, hct⟩
        replace Ha := Lib.hid (Ha.out.keep hk)
        replace Hb := Lib.hid (Hb.out.keep hk)
        replace Hc := Lib.hid (Hc.out.keep hk)
        replace Hs := Lib.hid (Hs.out.keep hk)
        replace hKc := hKc.trans hk
        clear hk
        have Ht := Lib.hid ht
        clear ht
        go_wp2_with fail
        go_at_call 24
        refine (same_a true Hs.out.area Ht.out.area (by decide) (by decide) (by omega) ⟨fun _ _ _ => Bool.or_comm _ _, fun _ => rfl⟩).mono ?_
        rintro e w118 ⟨rfl, hk⟩
        replace Ha := Lib.hid (Ha.out.keep hk)
        replace Hb := Lib.hid (Hb.out.keep hk)
        replace Hc := Lib.hid (Hc.out.keep hk)
        replace Hs := Lib.hid (Hs.out.keep hk)
        replace Ht := Lib.hid (Ht.out.keep hk)
        replace hKc := hKc.trans hk
        clear hk
        clear Hs
        clear Ht
        go_wp2_with fail
        go_at_call 13
        refine (meet_a Ha.out Hb.out (by decide) (by decide) (by omega)).mono ?_
        rintro e w119 ⟨Ay, cy, rfl, hk, hy, hcy⟩
        replace Ha := Lib.hid (Ha.out.keep hk)
        replace Hb := Lib.hid (Hb.out.keep hk)
        replace Hc := Lib.hid (Hc.out.keep hk)
        replace hKc := hKc.trans hk
        clear hk
        have Hy := Lib.hid hy
        clear hy
        go_wp2_with fail
        go_at_call 13
        refine (meet_a Hb.out Ha.out (by decide) (by decide) (by omega)).mono ?_
        rintro e w120 ⟨Az, cz, rfl, hk, hz, hcz⟩
        replace Ha := Lib.hid (Ha.out.keep hk)
        replace Hb := Lib.hid (Hb.out.keep hk)
        replace Hc := Lib.hid (Hc.out.keep hk)
        replace Hy := Lib.hid (Hy.out.keep hk)
        replace hKc := hKc.trans hk
        clear hk
        have Hz := Lib.hid hz
        clear hz
        go_wp2_with fail
        go_at_call 24
        refine (same_a true Hy.out.area Hz.out.area (by decide) (by decide) (by omega) ⟨fun _ _ _ => Bool.and_comm _ _, fun _ => rfl⟩).mono ?_
        rintro e w121 ⟨rfl, hk⟩
        replace Ha := Lib.hid (Ha.out.keep hk)
        replace Hb := Lib.hid (Hb.out.keep hk)
        replace Hc := Lib.hid (Hc.out.keep hk)
        replace Hy := Lib.hid (Hy.out.keep hk)
        replace Hz := Lib.hid (Hz.out.keep hk)
        replace hKc := hKc.trans hk
        clear hk
        go_wp2
        go_ret
        exact ⟨rfl, hKc⟩

set_option maxRecDepth 100000 in
set_option maxHeartbeats 16000000 in
theorem withins_long {w : World} {A B C : Option Addr} {na ca nb cb nc cc : Nat} {za zb zc : List (List Sp)} (ra : AArg w A na ca za) (rb : AArg w B nb cb zb) (rc : AArg w C nc cc zc) (he : ¬ (fewB za = true ∧ fewB zb = true ∧ fewB zc = true)) (hT : Tab w) :
    Calls Tryd.prog 6 #[.slice A na ca, .slice B nb cb, .slice C nc cc] w fun e w' => e = .returned (.bool true) ∧ Keep w w' := by
  have Ha := Lib.hid ra
  have Hb := Lib.hid rb
  have Hc := Lib.hid rc
  have HT := Lib.hid hT
  have hKc := Keep.refl w
  clear ra rb rc hT
  cases ha : fewB za
  · clear he
    go_enter Tryd.func6, Tryd.ntmps6
    go_wp2_with fail
    go_at_call 8
    refine (alive_any _ HT.out).mono ?_
    rintro e w101 ⟨rfl, hk⟩
    replace Ha := Lib.hid (Ha.out.keep hk)
    replace Hb := Lib.hid (Hb.out.keep hk)
    replace Hc := Lib.hid (Hc.out.keep hk)
    replace hKc := hKc.trans hk
    clear hk
    go_wp2_with fail
    go_at_call 9
    refine (few_a Ha.out).mono ?_
    rintro e wfa ⟨rfl, rfl⟩
    rw [ha]
    go_wp2
    go_ret
    exact ⟨rfl, hKc⟩
  cases hb : fewB zb
  · clear he
    go_enter Tryd.func6, Tryd.ntmps6
    go_wp2_with fail
    go_at_call 8
    refine (alive_any _ HT.out).mono ?_
    rintro e w101 ⟨rfl, hk⟩
    replace Ha := Lib.hid (Ha.out.keep hk)
    replace Hb := Lib.hid (Hb.out.keep hk)
    replace Hc := Lib.hid (Hc.out.keep hk)
    replace hKc := hKc.trans hk
    clear hk
    go_wp2_with fail
    go_at_call 9
    refine (few_a Ha.out).mono ?_
    rintro e wfa ⟨rfl, rfl⟩
    rw [ha]
    go_wp2_with fail
    go_at_call 9
    refine (few_a Hb.out).mono ?_
    rintro e wfb ⟨rfl, rfl⟩
    rw [hb]
    go_wp2
    go_ret
    exact ⟨rfl, hKc⟩
  have hc : fewB zc = false := by cases hc : fewB zc <;> simp_all
  clear he
  go_enter Tryd.func6, Tryd.ntmps6
  go_wp2_with fail
  go_at_call 8
  refine (alive_any _ HT.out).mono ?_
  rintro e w101 ⟨rfl, hk⟩
  replace Ha := Lib.hid (Ha.out.keep hk)
  replace Hb := Lib.hid (Hb.out.keep hk)
  replace Hc := Lib.hid (Hc.out.keep hk)
  replace hKc := hKc.trans hk
  clear hk
  go_wp2_with fail
  go_at_call 9
  refine (few_a Ha.out).mono ?_
  rintro e wfa ⟨rfl, rfl⟩
  rw [ha]
  go_wp2_with fail
  go_at_call 9
  refine (few_a Hb.out).mono ?_
  rintro e wfb ⟨rfl, rfl⟩
  rw [hb]
  go_wp2_with fail
  go_at_call 9
  refine (few_a Hc.out).mono ?_
  rintro e wfc ⟨rfl, rfl⟩
  rw [hc]
  go_wp2
  go_ret
  exact ⟨rfl, hKc⟩

theorem AreaWithins_std (A : Option Addr) (na ca : Nat) (za : List (List Sp)) (B : Option Addr) (nb cb : Nat) (zb : List (List Sp)) (C : Option Addr) (nc cc : Nat) (zc : List (List Sp)) (w : World) (ra : AArg w A na ca za) (rb : AArg w B nb cb zb) (rc : AArg w C nc cc zc) (hT : Tab w) :
    Calls Tryd.prog 6 #[.slice A na ca, .slice B nb cb, .slice C nc cc] w fun e w' => e = .returned (.bool true) ∧ Below w.heap.size w w' := by
  by_cases h : fewB za = true ∧ fewB zb = true ∧ fewB zc = true
  · exact withins_few ra rb rc h.1 h.2.1 h.2.2 hT
  · exact withins_long ra rb rc h hT
end Go.Proofs.YtmdhbbibghpijaaDoor
