/- IvlSets: of all spans the set, and of two every other one, is as the document says. -/
import Derived.Test.YtdjhdcomoilhjaaIvlRefMk
import Derived.Test.YtdjhdcomoilhjaaIvlAlive
namespace Go.Proofs.Ytdjhdcomoilhjaa
open Go.RowKit

/-- A Bool that tells a proposition. -/
structure Tells (v : Bool) (P : Prop) : Prop where
  iff : v = true ↔ P
theorem tells_is (P : Prop) : ∃ v : Bool, Tells v P := by
  by_cases h : P
  · exact ⟨true, ⟨by simp [h]⟩⟩
  · exact ⟨false, ⟨by simp [h]⟩⟩
theorem gives_set {w w' : World} {P : Int → Prop} {N : Nat} {e : Ending} (g : Gives w P N e w') : SetOut w P N e w' := by
  obtain ⟨hk, A, c, r, rfl, ha, hl, hs⟩ := gives_arg g
  exact ⟨A, _, c, r, rfl, hk, ha, hs, hl⟩
theorem set_exists_le {w : World} {A : Option Addr} {n c : Nat} {zs : List Sp} (h : Arg w A n c zs) (hn : n ≤ 40000) : ∃ r, IsSet r (mem zs) ∧ r.length ≤ n := by
  obtain ⟨e, w', fr, hg, -⟩ := make_any A n c zs w h.prs h.nil (by omega) h.ok []
  obtain ⟨-, A', c', r, -, -, -, -, hl, hs⟩ := hg
  exact ⟨r, hs, hl⟩
theorem rsame_t {w : World} {A B : Option Addr} {n c n2 c2 : Nat} {us vs : List Sp} (h : Arg w A n c us) (h2 : Arg w B n2 c2 vs) (hn : n ≤ 40000) (hn2 : n2 ≤ 40000) (e : us = vs) :
    Calls Try.prog 6 #[.slice A n c, .slice B n2 c2] w fun e w' => e = .returned (.bool true) ∧ Keep w w' := rsame_any A n c us B n2 c2 vs true w h h2 hn hn2 (by simp [e])
theorem has_b {w : World} {A : Option Addr} {n c : Nat} {zs : List Sp} (k : Int) (v : Bool) (h : Arg w A n c zs) (hn : n ≤ 40000) (hv : hasB zs k = v) :
    Calls Try.prog 13 #[.slice A n c, .int .u32 k] w fun e w' => e = .returned (.bool v) ∧ Keep w w' := has_is A n c zs k v w h hn hv
theorem rhas_k {w : World} {A : Option Addr} {n c : Nat} {zs : List Sp} {k : Int} (v : Bool) (h : Arg w A n c zs) (hn : n ≤ 40000) (hv : hasB zs k = v) :
    Calls Try.prog 14 #[.slice A n c, .int .i64 k] w fun e w' => e = .returned (.bool v) ∧ Keep w w' := by
  refine (rhas_v v h hn hv).mono ?_
  rintro e w' ⟨rfl, rfl⟩
  exact ⟨rfl, Keep.refl _⟩
theorem right_iff {za r : List Sp} (ha : ∀ s ∈ za, s.ok) (hr : IsSet r (mem za)) : Rt za ↔ za = r := by
  constructor
  · intro h
    exact (isSet_self h ha).unique hr (fun _ => Iff.rfl)
  · intro h
    rw [h]
    exact hr.rt
theorem own_arg {w : World} {base n c : Nat} {A : Option Addr} {zs : List Sp} (h : Own w base A n c zs) (hok : ∀ s ∈ zs, s.ok) : Arg w A n c zs := by
  obtain ⟨hp, hc⟩ := own_prs h
  refine ⟨hp, hc, ?_, hok⟩
  rcases h.2 with ⟨e, _⟩ | ⟨g, cap, cur, e, _⟩
  · cases e; exact fun _ => rfl
  · cases e; exact fun h => by cases h

set_option maxRecDepth 100000 in
set_option maxHeartbeats 16000000 in
theorem sets_few {w : World} {A B : Option Addr} {na ca nb cb : Nat} {za zb : List Sp} {key : Int} (ra : Arg w A na ca za) (rb : Arg w B nb cb zb) (la : na ≤ 40) (lb : nb ≤ 40) (hk0 : 0 ≤ key ∧ key ≤ 4294967295) :
    Calls Try.prog 3 #[.slice A na ca, .slice B nb cb, .int .u32 key] w fun e w' => e = .returned (.bool true) ∧ Keep w w' := by
  obtain ⟨i0, hi, hz0, hz1, hz2⟩ := info_parts infoSp
  have hla : ¬ (40 : Int) < (na : Int) := by omega
  have hlb : ¬ (40 : Int) < (nb : Int) := by omega
  have Ha := Lib.hid ra
  have Hb := Lib.hid rb
  have oa := ra.ok
  have ob := rb.ok
  obtain ⟨vr, hvr⟩ := tells_is (Rt za)
  obtain ⟨vw, hvw⟩ := tells_is (∀ k, mem za k → mem zb k)
  obtain ⟨vs, hvs⟩ := tells_is (∀ k, mem za k ↔ mem zb k)
  obtain ⟨vh, hvh⟩ : ∃ v, hasB za key = v := ⟨_, rfl⟩
  have HV := Lib.hid (And.intro hvr (And.intro hvw (And.intro hvs hvh)))
  have HO := Lib.hid (And.intro oa ob)
  obtain ⟨kl, kh⟩ := hk0
  have hKc := Keep.refl w
  clear ra rb oa ob hvr hvw hvs hvh
  go_enter Try.func3, Try.ntmps3
  go_wp2_with fail
  go_at_call 4
  refine (alive_any _).mono ?_
  rintro e w101 ⟨rfl, hk⟩
  replace Ha := Lib.hid (Ha.out.keep hk)
  replace Hb := Lib.hid (Hb.out.keep hk)
  replace hKc := hKc.trans hk
  clear hk
  have HO0 := Lib.hid (World.ownsRow_made (base := w101.heap.size) (e := 36) (size := 2) w101 #[] 0 (Nat.le_refl _) (Nat.zero_le _) rfl)
  have HK1 := Lib.hid (show Keep w101 (w101.alloc (.cells #[] 36)) from (Keep.refl _).alloc _)
  have hml : 0 + na ≤ maxLen := by unfold maxLen; omega
  have hby : (0 + na) * 8 ≤ 140737488355328 := by omega
  go_upto_region 6 with (at_builtin; go_must (refine wpList_append_prs rfl _ _ 22 rfl w101.heap.size 36 i0 (.agg #[.int .u32 0, .int .u32 0]) 8 Try.underlying22 hi hz0 hz1 hz2 rfl spOne _ 0 [] rfl HO0.out _ A na ca za rfl (Ha.out.prs.up HK1.out) Ha.out.nil hml hby (by simp) ?_); intro Aq cq Wq hownq hgrowq _; rw [Nat.zero_add, List.nil_append] at hownq; rw [Nat.zero_add]; have HOq := Lib.hid hownq; have hkq := keep_grown HK1.out HO0.out hgrowq; have HKq := Lib.hid hkq; clear hownq hgrowq hkq)
  have hk := HKq.out
  have Hq := Lib.hid (own_arg HOq.out HO.out.1)
  clear HOq HKq HO0 HK1 hml hby
  replace Ha := Lib.hid (Ha.out.keep hk)
  replace Hb := Lib.hid (Hb.out.keep hk)
  replace hKc := hKc.trans hk
  clear hk
  rename World => w102
  go_wp2_with fail
  go_at_call 7
  refine ((make_any A na ca za _ Ha.out.prs Ha.out.nil (by omega) Ha.out.ok).mono (fun _ _ g => gives_set g)).mono ?_
  rintro e w103 ⟨Ax, nx, cx, zx, rfl, hk, hx, hsx, hlx⟩
  replace Ha := Lib.hid (Ha.out.keep hk)
  replace Hb := Lib.hid (Hb.out.keep hk)
  replace Hq := Lib.hid (Hq.out.keep hk)
  replace hKc := hKc.trans hk
  clear hk
  have Hx := Lib.hid hx
  have HSx := Lib.hid hsx
  clear hx hsx
  go_wp2_with fail
  go_at_call 5
  refine (build_set 0 Ha.out (arg_nil _) (by omega) (by omega) (by decide)).mono ?_
  rintro e w104 ⟨Ay, ny, cy, zy, rfl, hk, hy, hsy, hly⟩
  replace Ha := Lib.hid (Ha.out.keep hk)
  replace Hb := Lib.hid (Hb.out.keep hk)
  replace Hq := Lib.hid (Hq.out.keep hk)
  replace Hx := Lib.hid (Hx.out.keep hk)
  replace hKc := hKc.trans hk
  clear hk
  have Hy := Lib.hid hy
  have HSy := Lib.hid hsy
  clear hy hsy
  go_wp2_with fail
  go_at_call 6
  refine (rsame_t Hx.out Hy.out (by omega) (by omega) (HSx.out.unique HSy.out (fun k => ((ask0 HO.out.1 (by simp) k).trans ⟨fun h => h.elim id (fun h => absurd h (mem_nil k)), .inl⟩).symm))).mono ?_
  rintro e w105 ⟨rfl, hk⟩
  replace Ha := Lib.hid (Ha.out.keep hk)
  replace Hb := Lib.hid (Hb.out.keep hk)
  replace Hq := Lib.hid (Hq.out.keep hk)
  replace Hx := Lib.hid (Hx.out.keep hk)
  replace Hy := Lib.hid (Hy.out.keep hk)
  replace hKc := hKc.trans hk
  clear hk
  clear Hx HSx
  clear Hy HSy
  go_wp2_with fail
  go_at_call 8
  refine ((union_any A na ca za B nb cb zb _ Ha.out Hb.out (by omega) (by omega)).mono (fun _ _ g => gives_set g)).mono ?_
  rintro e w106 ⟨Ax, nx, cx, zx, rfl, hk, hx, hsx, hlx⟩
  replace Ha := Lib.hid (Ha.out.keep hk)
  replace Hb := Lib.hid (Hb.out.keep hk)
  replace Hq := Lib.hid (Hq.out.keep hk)
  replace hKc := hKc.trans hk
  clear hk
  have Hx := Lib.hid hx
  have HSx := Lib.hid hsx
  clear hx hsx
  go_wp2_with fail
  go_at_call 5
  refine (build_set 0 Ha.out Hb.out (by omega) (by omega) (by decide)).mono ?_
  rintro e w107 ⟨Ay, ny, cy, zy, rfl, hk, hy, hsy, hly⟩
  replace Ha := Lib.hid (Ha.out.keep hk)
  replace Hb := Lib.hid (Hb.out.keep hk)
  replace Hq := Lib.hid (Hq.out.keep hk)
  replace Hx := Lib.hid (Hx.out.keep hk)
  replace hKc := hKc.trans hk
  clear hk
  have Hy := Lib.hid hy
  have HSy := Lib.hid hsy
  clear hy hsy
  go_wp2_with fail
  go_at_call 6
  refine (rsame_t Hx.out Hy.out (by omega) (by omega) (HSx.out.unique HSy.out (fun k => (ask0 HO.out.1 HO.out.2 k).symm))).mono ?_
  rintro e w108 ⟨rfl, hk⟩
  replace Ha := Lib.hid (Ha.out.keep hk)
  replace Hb := Lib.hid (Hb.out.keep hk)
  replace Hq := Lib.hid (Hq.out.keep hk)
  replace Hx := Lib.hid (Hx.out.keep hk)
  replace Hy := Lib.hid (Hy.out.keep hk)
  replace hKc := hKc.trans hk
  clear hk
  clear Hx HSx
  clear Hy HSy
  go_wp2_with fail
  go_at_call 9
  refine ((meet_any A na ca za B nb cb zb _ Ha.out Hb.out (by omega) (by omega)).mono (fun _ _ g => gives_set g)).mono ?_
  rintro e w109 ⟨Ax, nx, cx, zx, rfl, hk, hx, hsx, hlx⟩
  replace Ha := Lib.hid (Ha.out.keep hk)
  replace Hb := Lib.hid (Hb.out.keep hk)
  replace Hq := Lib.hid (Hq.out.keep hk)
  replace hKc := hKc.trans hk
  clear hk
  have Hx := Lib.hid hx
  have HSx := Lib.hid hsx
  clear hx hsx
  go_wp2_with fail
  go_at_call 5
  refine (build_set 1 Ha.out Hb.out (by omega) (by omega) (by decide)).mono ?_
  rintro e w110 ⟨Ay, ny, cy, zy, rfl, hk, hy, hsy, hly⟩
  replace Ha := Lib.hid (Ha.out.keep hk)
  replace Hb := Lib.hid (Hb.out.keep hk)
  replace Hq := Lib.hid (Hq.out.keep hk)
  replace Hx := Lib.hid (Hx.out.keep hk)
  replace hKc := hKc.trans hk
  clear hk
  have Hy := Lib.hid hy
  have HSy := Lib.hid hsy
  clear hy hsy
  go_wp2_with fail
  go_at_call 6
  refine (rsame_t Hx.out Hy.out (by omega) (by omega) (HSx.out.unique HSy.out (fun k => (ask1 HO.out.1 k).symm))).mono ?_
  rintro e w111 ⟨rfl, hk⟩
  replace Ha := Lib.hid (Ha.out.keep hk)
  replace Hb := Lib.hid (Hb.out.keep hk)
  replace Hq := Lib.hid (Hq.out.keep hk)
  replace Hx := Lib.hid (Hx.out.keep hk)
  replace Hy := Lib.hid (Hy.out.keep hk)
  replace hKc := hKc.trans hk
  clear hk
  clear Hx HSx
  clear Hy HSy
  go_wp2_with fail
  go_at_call 10
  refine ((minus_any A na ca za B nb cb zb _ Ha.out Hb.out (by omega) (by omega)).mono (fun _ _ g => gives_set g)).mono ?_
  rintro e w112 ⟨Ax, nx, cx, zx, rfl, hk, hx, hsx, hlx⟩
  replace Ha := Lib.hid (Ha.out.keep hk)
  replace Hb := Lib.hid (Hb.out.keep hk)
  replace Hq := Lib.hid (Hq.out.keep hk)
  replace hKc := hKc.trans hk
  clear hk
  have Hx := Lib.hid hx
  have HSx := Lib.hid hsx
  clear hx hsx
  go_wp2_with fail
  go_at_call 5
  refine (build_set 2 Ha.out Hb.out (by omega) (by omega) (by decide)).mono ?_
  rintro e w113 ⟨Ay, ny, cy, zy, rfl, hk, hy, hsy, hly⟩
  replace Ha := Lib.hid (Ha.out.keep hk)
  replace Hb := Lib.hid (Hb.out.keep hk)
  replace Hq := Lib.hid (Hq.out.keep hk)
  replace Hx := Lib.hid (Hx.out.keep hk)
  replace hKc := hKc.trans hk
  clear hk
  have Hy := Lib.hid hy
  have HSy := Lib.hid hsy
  clear hy hsy
  go_wp2_with fail
  go_at_call 6
  refine (rsame_t Hx.out Hy.out (by omega) (by omega) (HSx.out.unique HSy.out (fun k => (ask2 HO.out.1 k).symm))).mono ?_
  rintro e w114 ⟨rfl, hk⟩
  replace Ha := Lib.hid (Ha.out.keep hk)
  replace Hb := Lib.hid (Hb.out.keep hk)
  replace Hq := Lib.hid (Hq.out.keep hk)
  replace Hx := Lib.hid (Hx.out.keep hk)
  replace Hy := Lib.hid (Hy.out.keep hk)
  replace hKc := hKc.trans hk
  clear hk
  clear Hx HSx
  clear Hy HSy
  go_wp2_with fail
  go_at_call 11
  refine ((not_any A na ca za _ Ha.out (by omega)).mono (fun _ _ g => gives_set g)).mono ?_
  rintro e w115 ⟨Ax, nx, cx, zx, rfl, hk, hx, hsx, hlx⟩
  replace Ha := Lib.hid (Ha.out.keep hk)
  replace Hb := Lib.hid (Hb.out.keep hk)
  replace Hq := Lib.hid (Hq.out.keep hk)
  replace hKc := hKc.trans hk
  clear hk
  have Hx := Lib.hid hx
  have HSx := Lib.hid hsx
  clear hx hsx
  go_wp2_with fail
  go_at_call 5
  refine (build_set 3 Ha.out (arg_nil _) (by omega) (by omega) (by decide)).mono ?_
  rintro e w116 ⟨Ay, ny, cy, zy, rfl, hk, hy, hsy, hly⟩
  replace Ha := Lib.hid (Ha.out.keep hk)
  replace Hb := Lib.hid (Hb.out.keep hk)
  replace Hq := Lib.hid (Hq.out.keep hk)
  replace Hx := Lib.hid (Hx.out.keep hk)
  replace hKc := hKc.trans hk
  clear hk
  have Hy := Lib.hid hy
  have HSy := Lib.hid hsy
  clear hy hsy
  go_wp2_with fail
  go_at_call 6
  refine (rsame_t Hx.out Hy.out (by omega) (by omega) (HSx.out.unique HSy.out (fun k => (ask3 k).symm))).mono ?_
  rintro e w117 ⟨rfl, hk⟩
  replace Ha := Lib.hid (Ha.out.keep hk)
  replace Hb := Lib.hid (Hb.out.keep hk)
  replace Hq := Lib.hid (Hq.out.keep hk)
  replace Hx := Lib.hid (Hx.out.keep hk)
  replace Hy := Lib.hid (Hy.out.keep hk)
  replace hKc := hKc.trans hk
  clear hk
  clear Hx HSx
  clear Hy HSy
  go_wp2_with fail
  go_at_call 12
  refine (right_is A na ca za vr _ Ha.out (by omega) HV.out.1.iff).mono ?_
  rintro e w118 ⟨rfl, hk⟩
  replace Ha := Lib.hid (Ha.out.keep hk)
  replace Hb := Lib.hid (Hb.out.keep hk)
  replace Hq := Lib.hid (Hq.out.keep hk)
  replace hKc := hKc.trans hk
  clear hk
  go_wp2_with fail
  go_at_call 5
  refine (build_set 0 Ha.out (arg_nil _) (by omega) (by omega) (by decide)).mono ?_
  rintro e w119 ⟨Ax, nx, cx, zx, rfl, hk, hx, hsx, hlx⟩
  replace Ha := Lib.hid (Ha.out.keep hk)
  replace Hb := Lib.hid (Hb.out.keep hk)
  replace Hq := Lib.hid (Hq.out.keep hk)
  replace hKc := hKc.trans hk
  clear hk
  have Hx := Lib.hid hx
  have HSx := Lib.hid hsx
  clear hx hsx
  go_wp2_with fail
  go_at_call 6
  refine (rsame_any A na ca za Ax nx cx zx vr _ Ha.out Hx.out (by omega) (by omega) (HV.out.1.iff.trans (right_iff HO.out.1 (HSx.out.congr (fun k => ((ask0 HO.out.1 (by simp) k).trans ⟨fun h => h.elim id (fun h => absurd h (mem_nil k)), .inl⟩)))))).mono ?_
  rintro e w120 ⟨rfl, hk⟩
  replace Ha := Lib.hid (Ha.out.keep hk)
  replace Hb := Lib.hid (Hb.out.keep hk)
  replace Hq := Lib.hid (Hq.out.keep hk)
  replace Hx := Lib.hid (Hx.out.keep hk)
  replace hKc := hKc.trans hk
  clear hk
  clear Hx HSx
  go_wp2_with fail
  go_at_call 13
  refine (has_b key vh Ha.out (by omega) HV.out.2.2.2).mono ?_
  rintro e w121 ⟨rfl, hk⟩
  replace Ha := Lib.hid (Ha.out.keep hk)
  replace Hb := Lib.hid (Hb.out.keep hk)
  replace Hq := Lib.hid (Hq.out.keep hk)
  replace hKc := hKc.trans hk
  clear hk
  go_wp2_with fail
  go_at_call 14
  refine (rhas_k vh Ha.out (by omega) HV.out.2.2.2).mono ?_
  rintro e w122 ⟨rfl, hk⟩
  replace Ha := Lib.hid (Ha.out.keep hk)
  replace Hb := Lib.hid (Hb.out.keep hk)
  replace Hq := Lib.hid (Hq.out.keep hk)
  replace hKc := hKc.trans hk
  clear hk
  go_wp2_with fail
  go_at_call 15
  refine (within_any A na ca za B nb cb zb vw _ Ha.out Hb.out (by omega) (by omega) HV.out.2.1.iff).mono ?_
  rintro e w123 ⟨rfl, hk⟩
  replace Ha := Lib.hid (Ha.out.keep hk)
  replace Hb := Lib.hid (Hb.out.keep hk)
  replace Hq := Lib.hid (Hq.out.keep hk)
  replace hKc := hKc.trans hk
  clear hk
  go_wp2_with fail
  go_at_call 5
  refine (build_set 2 Ha.out Hb.out (by omega) (by omega) (by decide)).mono ?_
  rintro e w124 ⟨Ax, nx, cx, zx, rfl, hk, hx, hsx, hlx⟩
  replace Ha := Lib.hid (Ha.out.keep hk)
  replace Hb := Lib.hid (Hb.out.keep hk)
  replace Hq := Lib.hid (Hq.out.keep hk)
  replace hKc := hKc.trans hk
  clear hk
  have Hx := Lib.hid hx
  have HSx := Lib.hid hsx
  clear hx hsx
  have hvx : (nx == 0) = vw := by
    have h1 := isSet_nil (HSx.out.congr (fun k => ask2 HO.out.1 k))
    rw [Hx.out.len] at h1
    have h2 := HV.out.2.1.iff
    have h3 : (∀ k, ¬ (mem za k ∧ ¬ mem zb k)) ↔ ∀ k, mem za k → mem zb k := ⟨fun h k g => Classical.byContradiction fun hn => h k ⟨g, hn⟩, fun h k g => g.2 (h k g.1)⟩
    rw [h3, ← h2] at h1
    cases vw <;> simp_all
  have hvi : ((nx : Int) == 0) = vw := by
    rw [← hvx]
    cases hq : nx == 0 <;> simp_all <;> omega
  clear Hx HSx
  obtain ⟨zm, hzm, -⟩ := set_exists_le Ha.out (show na ≤ 40000 by omega)
  have HZM := Lib.hid hzm
  clear hzm
  go_wp2_with fail
  go_at_call 16
  refine (size_is A na ca za zm _ Ha.out (by omega) HZM.out).mono ?_
  rintro e w125 ⟨rfl, hk⟩
  replace Ha := Lib.hid (Ha.out.keep hk)
  replace Hb := Lib.hid (Hb.out.keep hk)
  replace Hq := Lib.hid (Hq.out.keep hk)
  replace hKc := hKc.trans hk
  clear hk
  go_wp2_with fail
  go_at_call 17
  refine (rsize_any Ha.out (by omega) HZM.out).mono ?_
  rintro e w126 ⟨rfl, hk⟩
  replace Ha := Lib.hid (Ha.out.keep hk)
  replace Hb := Lib.hid (Hb.out.keep hk)
  replace Hq := Lib.hid (Hq.out.keep hk)
  replace hKc := hKc.trans hk
  clear hk
  go_wp2_with fail
  go_at_call 18
  refine (same_any A na ca za B nb cb zb vs _ Ha.out Hb.out (by omega) (by omega) HV.out.2.2.1.iff).mono ?_
  rintro e w127 ⟨rfl, hk⟩
  replace Ha := Lib.hid (Ha.out.keep hk)
  replace Hb := Lib.hid (Hb.out.keep hk)
  replace Hq := Lib.hid (Hq.out.keep hk)
  replace hKc := hKc.trans hk
  clear hk
  go_wp2_with fail
  go_at_call 5
  refine (build_set 0 Ha.out (arg_nil _) (by omega) (by omega) (by decide)).mono ?_
  rintro e w128 ⟨Ax, nx, cx, zx, rfl, hk, hx, hsx, hlx⟩
  replace Ha := Lib.hid (Ha.out.keep hk)
  replace Hb := Lib.hid (Hb.out.keep hk)
  replace Hq := Lib.hid (Hq.out.keep hk)
  replace hKc := hKc.trans hk
  clear hk
  have Hx := Lib.hid hx
  have HSx := Lib.hid hsx
  clear hx hsx
  go_wp2_with fail
  go_at_call 5
  refine (build_set 0 Hb.out (arg_nil _) (by omega) (by omega) (by decide)).mono ?_
  rintro e w129 ⟨Ay, ny, cy, zy, rfl, hk, hy, hsy, hly⟩
  replace Ha := Lib.hid (Ha.out.keep hk)
  replace Hb := Lib.hid (Hb.out.keep hk)
  replace Hq := Lib.hid (Hq.out.keep hk)
  replace Hx := Lib.hid (Hx.out.keep hk)
  replace hKc := hKc.trans hk
  clear hk
  have Hy := Lib.hid hy
  have HSy := Lib.hid hsy
  clear hy hsy
  go_wp2_with fail
  go_at_call 6
  refine (rsame_any Ax nx cx zx Ay ny cy zy vs _ Hx.out Hy.out (by omega) (by omega) (HV.out.2.2.1.iff.trans ⟨fun h => (HSx.out.congr (fun k => ((ask0 HO.out.1 (by simp) k).trans ⟨fun h => h.elim id (fun h => absurd h (mem_nil k)), .inl⟩))).unique (HSy.out.congr (fun k => ((ask0 HO.out.2 (by simp) k).trans ⟨fun h => h.elim id (fun h => absurd h (mem_nil k)), .inl⟩))) h, fun h k => by have e1 := (HSx.out.congr (fun k => ((ask0 HO.out.1 (by simp) k).trans ⟨fun h => h.elim id (fun h => absurd h (mem_nil k)), .inl⟩))).mem k; have e2 := (HSy.out.congr (fun k => ((ask0 HO.out.2 (by simp) k).trans ⟨fun h => h.elim id (fun h => absurd h (mem_nil k)), .inl⟩))).mem k; rw [← e1, ← e2, h]⟩)).mono ?_
  rintro e w130 ⟨rfl, hk⟩
  replace Ha := Lib.hid (Ha.out.keep hk)
  replace Hb := Lib.hid (Hb.out.keep hk)
  replace Hq := Lib.hid (Hq.out.keep hk)
  replace Hx := Lib.hid (Hx.out.keep hk)
  replace Hy := Lib.hid (Hy.out.keep hk)
  replace hKc := hKc.trans hk
  clear hk
  clear Hx HSx
  clear Hy HSy
  go_wp2_with fail
  go_at_call 6
  refine (rsame_t Hq.out Ha.out (by omega) (by omega) rfl).mono ?_
  rintro e w131 ⟨rfl, hk⟩
  replace Ha := Lib.hid (Ha.out.keep hk)
  replace Hb := Lib.hid (Hb.out.keep hk)
  replace Hq := Lib.hid (Hq.out.keep hk)
  replace hKc := hKc.trans hk
  clear hk
  go_wp2
  go_ret
  exact ⟨rfl, hKc⟩

set_option maxRecDepth 100000 in
set_option maxHeartbeats 4000000 in
theorem sets_long {w : World} {A B : Option Addr} {na ca nb cb : Nat} {key : Int} (h : ¬ (na ≤ 40 ∧ nb ≤ 40)) :
    Calls Try.prog 3 #[.slice A na ca, .slice B nb cb, .int .u32 key] w fun e w' => e = .returned (.bool true) ∧ Keep w w' := by
  by_cases h1 : 40 < na
  · have k1 : (40 : Int) < (na : Int) := by omega
    clear h
    go_enter Try.func3, Try.ntmps3
    go_wp2_with (go_at_call 4; refine (alive_any _).mono ?_; rintro e w1 ⟨rfl, hk1⟩)
    go_ret
    exact ⟨rfl, hk1⟩
  · have k1 : ¬ (40 : Int) < (na : Int) := by omega
    have k2 : (40 : Int) < (nb : Int) := by omega
    clear h
    go_enter Try.func3, Try.ntmps3
    go_wp2_with (go_at_call 4; refine (alive_any _).mono ?_; rintro e w1 ⟨rfl, hk1⟩)
    go_ret
    exact ⟨rfl, hk1⟩
theorem IvlSets_std (A : Option Addr) (na ca : Nat) (za : List Sp) (B : Option Addr) (nb cb : Nat) (zb : List Sp) (key : Int) (wk : (Lit.int .u32 key).wf = true) (w : World) (ra : SpArg w A na ca za) (rb : SpArg w B nb cb zb) :
    Calls Try.prog 3 #[.slice A na ca, .slice B nb cb, .int .u32 key] w fun e w' => e = .returned (.bool true) ∧ Below w.heap.size w w' := by
  by_cases h : na ≤ 40 ∧ nb ≤ 40
  · exact sets_few ra.2 rb.2 h.1 h.2 (bounds_u32 wk)
  · exact sets_long h
end Go.Proofs.Ytdjhdcomoilhjaa
