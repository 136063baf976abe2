/- IvlAlgebra: sets are an algebra. -/
import Derived.Test.YtglokhpgjfoneaaIvlArg
namespace Go.Proofs.Ytglokhpgjfoneaa
open Go.RowKit

theorem has_v {A : Option Addr} {n c : Nat} {f : Int → Bool} {w : World} (k : Int) (v : Bool) (h : Bg w A n c f) (hn : n ≤ 40000) (hv : f k = v) :
    Calls Try.prog 17 #[.slice A n c, .int .u32 k] w fun e w' => e = .returned (.bool v) ∧ Keep w w' := hv ▸ has_o k h hn
theorem size_v {A : Option Addr} {n c : Nat} {f : Int → Bool} {w : World} (v : Int) (h : Bg w A n c f) (hn : n ≤ 40000) (hv : cz f = v) :
    Calls Try.prog 20 #[.slice A n c] w fun e w' => e = .returned (.int .u64 v) ∧ Keep w w' := hv ▸ size_o h hn

set_option maxRecDepth 100000 in
set_option maxHeartbeats 16000000 in
theorem algebra_law (A : Option Addr) (n1 k1 : Nat) (B : Option Addr) (n2 k2 : Nat) (C : Option Addr) (n3 k3 : Nat) (f g h : Int → Bool) (key : Int) (w : World) (ha : Bg w A n1 k1 f) (hb : Bg w B n2 k2 g) (hc : Bg w C n3 k3 h) (l1 : n1 ≤ 40) (l2 : n2 ≤ 40) (l3 : n3 ≤ 40) (hkey : keyB key = true) :
    Calls Try.prog 4 #[.slice A n1 k1, .slice B n2 k2, .slice C n3 k3, .int .u32 key] w fun e w' => e = .returned (.bool true) ∧ Keep w w' := by
  have j1 : ¬ (40 : Int) < (n1 : Int) := by omega
  have j2 : ¬ (40 : Int) < (n2 : Int) := by omega
  have j3 : ¬ (40 : Int) < (n3 : Int) := by omega
  have HF := Lib.hid ha.key
  have HKY := Lib.hid hkey
  have Ha := Lib.hid ha
  have Hb := Lib.hid hb
  have Hc := Lib.hid hc
  obtain ⟨zu, hzu⟩ : ∃ z, cz (fun k => f k || g k) = z := ⟨_, rfl⟩
  obtain ⟨zm, hzm⟩ : ∃ z, cz (fun k => f k && g k) = z := ⟨_, rfl⟩
  obtain ⟨zd, hzd⟩ : ∃ z, cz (fun k => f k && !g k) = z := ⟨_, rfl⟩
  obtain ⟨zn, hzn⟩ : ∃ z, cz (fun k => keyB k && !f k) = z := ⟨_, rfl⟩
  obtain ⟨zf, hzf⟩ : ∃ z, cz f = z := ⟨_, rfl⟩
  obtain ⟨zg, hzg⟩ : ∃ z, cz g = z := ⟨_, rfl⟩
  have HZ := Lib.hid (And.intro hzu (And.intro hzm (And.intro hzd (And.intro hzn (And.intro hzf hzg)))))
  have HW := Lib.hid (show IntKind.u64.wrap (zu + zm) = zf + zg ∧ IntKind.u64.wrap (zf + zg) = zf + zg ∧ IntKind.u64.wrap (zd + zm) = zf ∧ IntKind.u64.wrap (zn + zf) = 4294967296 by
    have e1 := cz_add f g
    have e2 := cz_minus f g
    have e3 := cz_not f
    rw [hzu, hzm, hzf, hzg] at e1
    rw [hzd, hzm, hzf] at e2
    rw [hzn, hzf] at e3
    have b1 := cz_bd f
    have b2 := cz_bd g
    rw [hzf] at b1
    rw [hzg] at b2
    simp only [IntKind.wrap_u64]
    omega)
  obtain ⟨x, hx⟩ : ∃ x, f key = x := ⟨_, rfl⟩
  obtain ⟨y, hy⟩ : ∃ y, g key = y := ⟨_, rfl⟩
  have HXY := Lib.hid (And.intro hx hy)
  clear ha hb hc hzu hzm hzd hzn hzf hzg hx hy hkey
  have hKc := Keep.refl w
  go_enter Try.func4, Try.ntmps4
  go_wp2_with fail
  go_at_call 8
  refine (alive_any _).mono ?_
  rintro e w101 ⟨rfl, hk⟩
  replace Ha := Lib.hid (Ha.out.keep hk)
  replace Hb := Lib.hid (Hb.out.keep hk)
  replace Hc := Lib.hid (Hc.out.keep hk)
  replace hKc := hKc.trans hk
  clear hk
  go_wp2_with fail
  go_at_call 12
  refine (union_o Ha.out Hb.out (by omega) (by omega)).mono ?_
  rintro e w102 ⟨Au, nu, cu, rfl, hk, hu, hnu⟩
  replace Ha := Lib.hid (Ha.out.keep hk)
  replace Hb := Lib.hid (Hb.out.keep hk)
  replace Hc := Lib.hid (Hc.out.keep hk)
  replace hKc := hKc.trans hk
  clear hk
  have Hu := Lib.hid hu
  clear hu
  go_wp2_with fail
  go_at_call 13
  refine (meet_o Ha.out Hb.out (by omega) (by omega)).mono ?_
  rintro e w103 ⟨Am, nm, cm, rfl, hk, hm, hnm⟩
  replace Ha := Lib.hid (Ha.out.keep hk)
  replace Hb := Lib.hid (Hb.out.keep hk)
  replace Hc := Lib.hid (Hc.out.keep hk)
  replace Hu := Lib.hid (Hu.out.keep hk)
  replace hKc := hKc.trans hk
  clear hk
  have Hm := Lib.hid hm
  clear hm
  go_wp2_with fail
  go_at_call 14
  refine (minus_o Ha.out Hb.out (by omega) (by omega)).mono ?_
  rintro e w104 ⟨Ad, nd, cd, rfl, hk, hd, hnd⟩
  replace Ha := Lib.hid (Ha.out.keep hk)
  replace Hb := Lib.hid (Hb.out.keep hk)
  replace Hc := Lib.hid (Hc.out.keep hk)
  replace Hu := Lib.hid (Hu.out.keep hk)
  replace Hm := Lib.hid (Hm.out.keep hk)
  replace hKc := hKc.trans hk
  clear hk
  have Hd := Lib.hid hd
  clear hd
  go_wp2_with fail
  go_at_call 16
  refine (right_o Hu.out (by omega)).mono ?_
  rintro e w105 ⟨rfl, hk⟩
  replace Ha := Lib.hid (Ha.out.keep hk)
  replace Hb := Lib.hid (Hb.out.keep hk)
  replace Hc := Lib.hid (Hc.out.keep hk)
  replace Hu := Lib.hid (Hu.out.keep hk)
  replace Hm := Lib.hid (Hm.out.keep hk)
  replace Hd := Lib.hid (Hd.out.keep hk)
  replace hKc := hKc.trans hk
  clear hk
  go_wp2_with fail
  go_at_call 16
  refine (right_o Hm.out (by omega)).mono ?_
  rintro e w106 ⟨rfl, hk⟩
  replace Ha := Lib.hid (Ha.out.keep hk)
  replace Hb := Lib.hid (Hb.out.keep hk)
  replace Hc := Lib.hid (Hc.out.keep hk)
  replace Hu := Lib.hid (Hu.out.keep hk)
  replace Hm := Lib.hid (Hm.out.keep hk)
  replace Hd := Lib.hid (Hd.out.keep hk)
  replace hKc := hKc.trans hk
  clear hk
  go_wp2_with fail
  go_at_call 16
  refine (right_o Hd.out (by omega)).mono ?_
  rintro e w107 ⟨rfl, hk⟩
  replace Ha := Lib.hid (Ha.out.keep hk)
  replace Hb := Lib.hid (Hb.out.keep hk)
  replace Hc := Lib.hid (Hc.out.keep hk)
  replace Hu := Lib.hid (Hu.out.keep hk)
  replace Hm := Lib.hid (Hm.out.keep hk)
  replace Hd := Lib.hid (Hd.out.keep hk)
  replace hKc := hKc.trans hk
  clear hk
  go_wp2_with fail
  go_at_call 15
  refine (not_o Hu.out.bg (by omega)).mono ?_
  rintro e w108 ⟨Ap, np, cp, rfl, hk, hp, hnp⟩
  replace Ha := Lib.hid (Ha.out.keep hk)
  replace Hb := Lib.hid (Hb.out.keep hk)
  replace Hc := Lib.hid (Hc.out.keep hk)
  replace Hu := Lib.hid (Hu.out.keep hk)
  replace Hm := Lib.hid (Hm.out.keep hk)
  replace Hd := Lib.hid (Hd.out.keep hk)
  replace hKc := hKc.trans hk
  clear hk
  have Hp := Lib.hid hp
  clear hp
  go_wp2_with fail
  go_at_call 15
  refine (not_o Ha.out (by omega)).mono ?_
  rintro e w109 ⟨Aq, nq, cq, rfl, hk, hq, hnq⟩
  replace Ha := Lib.hid (Ha.out.keep hk)
  replace Hb := Lib.hid (Hb.out.keep hk)
  replace Hc := Lib.hid (Hc.out.keep hk)
  replace Hu := Lib.hid (Hu.out.keep hk)
  replace Hm := Lib.hid (Hm.out.keep hk)
  replace Hd := Lib.hid (Hd.out.keep hk)
  replace Hp := Lib.hid (Hp.out.keep hk)
  replace hKc := hKc.trans hk
  clear hk
  have Hq := Lib.hid hq
  clear hq
  go_wp2_with fail
  go_at_call 15
  refine (not_o Hb.out (by omega)).mono ?_
  rintro e w110 ⟨Ar, nr, cr, rfl, hk, hr, hnr⟩
  replace Ha := Lib.hid (Ha.out.keep hk)
  replace Hb := Lib.hid (Hb.out.keep hk)
  replace Hc := Lib.hid (Hc.out.keep hk)
  replace Hu := Lib.hid (Hu.out.keep hk)
  replace Hm := Lib.hid (Hm.out.keep hk)
  replace Hd := Lib.hid (Hd.out.keep hk)
  replace Hp := Lib.hid (Hp.out.keep hk)
  replace Hq := Lib.hid (Hq.out.keep hk)
  replace hKc := hKc.trans hk
  clear hk
  have Hr := Lib.hid hr
  clear hr
  go_wp2_with fail
  go_at_call 13
  refine (meet_o Hq.out.bg Hr.out.bg (by omega) (by omega)).mono ?_
  rintro e w111 ⟨As, ns, cs, rfl, hk, hs, hns⟩
  replace Ha := Lib.hid (Ha.out.keep hk)
  replace Hb := Lib.hid (Hb.out.keep hk)
  replace Hc := Lib.hid (Hc.out.keep hk)
  replace Hu := Lib.hid (Hu.out.keep hk)
  replace Hm := Lib.hid (Hm.out.keep hk)
  replace Hd := Lib.hid (Hd.out.keep hk)
  replace Hp := Lib.hid (Hp.out.keep hk)
  replace Hq := Lib.hid (Hq.out.keep hk)
  replace Hr := Lib.hid (Hr.out.keep hk)
  replace hKc := hKc.trans hk
  clear hk
  have Hs := Lib.hid hs
  clear hs
  go_wp2_with fail
  go_at_call 22
  refine (same_o true Hp.out.bg Hs.out.bg (by omega) (by omega) ⟨fun _ k => (by cases f k <;> cases g k <;> cases keyB k <;> rfl), fun _ => rfl⟩).mono ?_
  rintro e w112 ⟨rfl, hk⟩
  replace Ha := Lib.hid (Ha.out.keep hk)
  replace Hb := Lib.hid (Hb.out.keep hk)
  replace Hc := Lib.hid (Hc.out.keep hk)
  replace Hu := Lib.hid (Hu.out.keep hk)
  replace Hm := Lib.hid (Hm.out.keep hk)
  replace Hd := Lib.hid (Hd.out.keep hk)
  replace Hp := Lib.hid (Hp.out.keep hk)
  replace Hq := Lib.hid (Hq.out.keep hk)
  replace Hr := Lib.hid (Hr.out.keep hk)
  replace Hs := Lib.hid (Hs.out.keep hk)
  replace hKc := hKc.trans hk
  clear hk
  clear Hp
  clear Hq
  clear Hr
  clear Hs
  go_wp2_with fail
  go_at_call 15
  refine (not_o Ha.out (by omega)).mono ?_
  rintro e w113 ⟨Ap, np, cp, rfl, hk, hp, hnp⟩
  replace Ha := Lib.hid (Ha.out.keep hk)
  replace Hb := Lib.hid (Hb.out.keep hk)
  replace Hc := Lib.hid (Hc.out.keep hk)
  replace Hu := Lib.hid (Hu.out.keep hk)
  replace Hm := Lib.hid (Hm.out.keep hk)
  replace Hd := Lib.hid (Hd.out.keep hk)
  replace hKc := hKc.trans hk
  clear hk
  have Hp := Lib.hid hp
  clear hp
  go_wp2_with fail
  go_at_call 15
  refine (not_o Hp.out.bg (by omega)).mono ?_
  rintro e w114 ⟨Aq, nq, cq, rfl, hk, hq, hnq⟩
  replace Ha := Lib.hid (Ha.out.keep hk)
  replace Hb := Lib.hid (Hb.out.keep hk)
  replace Hc := Lib.hid (Hc.out.keep hk)
  replace Hu := Lib.hid (Hu.out.keep hk)
  replace Hm := Lib.hid (Hm.out.keep hk)
  replace Hd := Lib.hid (Hd.out.keep hk)
  replace Hp := Lib.hid (Hp.out.keep hk)
  replace hKc := hKc.trans hk
  clear hk
  have Hq := Lib.hid hq
  clear hq
  go_wp2_with fail
  go_at_call 22
  refine (same_o true Hq.out.bg Ha.out (by omega) (by omega) ⟨fun _ k => (by have := HF.out k; cases h1 : f k <;> cases h2 : keyB k <;> simp_all), fun _ => rfl⟩).mono ?_
  rintro e w115 ⟨rfl, hk⟩
  replace Ha := Lib.hid (Ha.out.keep hk)
  replace Hb := Lib.hid (Hb.out.keep hk)
  replace Hc := Lib.hid (Hc.out.keep hk)
  replace Hu := Lib.hid (Hu.out.keep hk)
  replace Hm := Lib.hid (Hm.out.keep hk)
  replace Hd := Lib.hid (Hd.out.keep hk)
  replace Hp := Lib.hid (Hp.out.keep hk)
  replace Hq := Lib.hid (Hq.out.keep hk)
  replace hKc := hKc.trans hk
  clear hk
  clear Hp
  clear Hq
  go_wp2_with fail
  go_at_call 17
  refine (has_v key x Ha.out (by omega) HXY.out.1).mono ?_
  rintro e w116 ⟨rfl, hk⟩
  replace Ha := Lib.hid (Ha.out.keep hk)
  replace Hb := Lib.hid (Hb.out.keep hk)
  replace Hc := Lib.hid (Hc.out.keep hk)
  replace Hu := Lib.hid (Hu.out.keep hk)
  replace Hm := Lib.hid (Hm.out.keep hk)
  replace Hd := Lib.hid (Hd.out.keep hk)
  replace hKc := hKc.trans hk
  clear hk
  go_wp2_with fail
  go_at_call 17
  refine (has_v key y Hb.out (by omega) HXY.out.2).mono ?_
  rintro e w117 ⟨rfl, hk⟩
  replace Ha := Lib.hid (Ha.out.keep hk)
  replace Hb := Lib.hid (Hb.out.keep hk)
  replace Hc := Lib.hid (Hc.out.keep hk)
  replace Hu := Lib.hid (Hu.out.keep hk)
  replace Hm := Lib.hid (Hm.out.keep hk)
  replace Hd := Lib.hid (Hd.out.keep hk)
  replace hKc := hKc.trans hk
  clear hk
  cases x
  · cases y
    · go_wp2_with fail
      go_at_call 17
      refine (has_v key false Hu.out.bg (by omega) (by rw [HXY.out.1, HXY.out.2]; rfl)).mono ?_
      rintro e w118 ⟨rfl, hk⟩
      replace Ha := Lib.hid (Ha.out.keep hk)
      replace Hb := Lib.hid (Hb.out.keep hk)
      replace Hc := Lib.hid (Hc.out.keep hk)
      replace Hu := Lib.hid (Hu.out.keep hk)
      replace Hm := Lib.hid (Hm.out.keep hk)
      replace Hd := Lib.hid (Hd.out.keep hk)
      replace hKc := hKc.trans hk
      clear hk
      go_wp2_with fail
      go_at_call 17
      refine (has_v key false Hm.out.bg (by omega) (by rw [HXY.out.1, HXY.out.2]; rfl)).mono ?_
      rintro e w119 ⟨rfl, hk⟩
      replace Ha := Lib.hid (Ha.out.keep hk)
      replace Hb := Lib.hid (Hb.out.keep hk)
      replace Hc := Lib.hid (Hc.out.keep hk)
      replace Hu := Lib.hid (Hu.out.keep hk)
      replace Hm := Lib.hid (Hm.out.keep hk)
      replace Hd := Lib.hid (Hd.out.keep hk)
      replace hKc := hKc.trans hk
      clear hk
      go_wp2_with fail
      go_at_call 17
      refine (has_v key false Hd.out.bg (by omega) (by rw [HXY.out.1, HXY.out.2]; rfl)).mono ?_
      rintro e w120 ⟨rfl, hk⟩
      replace Ha := Lib.hid (Ha.out.keep hk)
      replace Hb := Lib.hid (Hb.out.keep hk)
      replace Hc := Lib.hid (Hc.out.keep hk)
      replace Hu := Lib.hid (Hu.out.keep hk)
      replace Hm := Lib.hid (Hm.out.keep hk)
      replace Hd := Lib.hid (Hd.out.keep hk)
      replace hKc := hKc.trans hk
      clear hk
      go_wp2_with fail
      go_at_call 15
      refine (not_o Ha.out (by omega)).mono ?_
      rintro e w121 ⟨Ap, np, cp, rfl, hk, hp, hnp⟩
      replace Ha := Lib.hid (Ha.out.keep hk)
      replace Hb := Lib.hid (Hb.out.keep hk)
      replace Hc := Lib.hid (Hc.out.keep hk)
      replace Hu := Lib.hid (Hu.out.keep hk)
      replace Hm := Lib.hid (Hm.out.keep hk)
      replace Hd := Lib.hid (Hd.out.keep hk)
      replace hKc := hKc.trans hk
      clear hk
      have Hp := Lib.hid hp
      clear hp
      go_wp2_with fail
      go_at_call 17
      refine (has_v key true Hp.out.bg (by omega) (by rw [HXY.out.1, HKY.out]; rfl)).mono ?_
      rintro e w122 ⟨rfl, hk⟩
      replace Ha := Lib.hid (Ha.out.keep hk)
      replace Hb := Lib.hid (Hb.out.keep hk)
      replace Hc := Lib.hid (Hc.out.keep hk)
      replace Hu := Lib.hid (Hu.out.keep hk)
      replace Hm := Lib.hid (Hm.out.keep hk)
      replace Hd := Lib.hid (Hd.out.keep hk)
      replace Hp := Lib.hid (Hp.out.keep hk)
      replace hKc := hKc.trans hk
      clear hk
      clear Hp
      go_wp2_with fail
      go_at_call 20
      refine (size_v zu Hu.out.bg (by omega) HZ.out.1).mono ?_
      rintro e w123 ⟨rfl, hk⟩
      replace Ha := Lib.hid (Ha.out.keep hk)
      replace Hb := Lib.hid (Hb.out.keep hk)
      replace Hc := Lib.hid (Hc.out.keep hk)
      replace Hu := Lib.hid (Hu.out.keep hk)
      replace Hm := Lib.hid (Hm.out.keep hk)
      replace Hd := Lib.hid (Hd.out.keep hk)
      replace hKc := hKc.trans hk
      clear hk
      go_wp2_with fail
      go_at_call 20
      refine (size_v zm Hm.out.bg (by omega) HZ.out.2.1).mono ?_
      rintro e w124 ⟨rfl, hk⟩
      replace Ha := Lib.hid (Ha.out.keep hk)
      replace Hb := Lib.hid (Hb.out.keep hk)
      replace Hc := Lib.hid (Hc.out.keep hk)
      replace Hu := Lib.hid (Hu.out.keep hk)
      replace Hm := Lib.hid (Hm.out.keep hk)
      replace Hd := Lib.hid (Hd.out.keep hk)
      replace hKc := hKc.trans hk
      clear hk
      go_wp2_with fail
      go_at_call 20
      refine (size_v zf Ha.out (by omega) HZ.out.2.2.2.2.1).mono ?_
      rintro e w125 ⟨rfl, hk⟩
      replace Ha := Lib.hid (Ha.out.keep hk)
      replace Hb := Lib.hid (Hb.out.keep hk)
      replace Hc := Lib.hid (Hc.out.keep hk)
      replace Hu := Lib.hid (Hu.out.keep hk)
      replace Hm := Lib.hid (Hm.out.keep hk)
      replace Hd := Lib.hid (Hd.out.keep hk)
      replace hKc := hKc.trans hk
      clear hk
      go_wp2_with fail
      go_at_call 20
      refine (size_v zg Hb.out (by omega) HZ.out.2.2.2.2.2).mono ?_
      rintro e w126 ⟨rfl, hk⟩
      replace Ha := Lib.hid (Ha.out.keep hk)
      replace Hb := Lib.hid (Hb.out.keep hk)
      replace Hc := Lib.hid (Hc.out.keep hk)
      replace Hu := Lib.hid (Hu.out.keep hk)
      replace Hm := Lib.hid (Hm.out.keep hk)
      replace Hd := Lib.hid (Hd.out.keep hk)
      replace hKc := hKc.trans hk
      clear hk
      have s1 := HW.out.1
      have s2 := HW.out.2.1
      go_wp2_with fail
      go_at_call 20
      refine (size_v zd Hd.out.bg (by omega) HZ.out.2.2.1).mono ?_
      rintro e w127 ⟨rfl, hk⟩
      replace Ha := Lib.hid (Ha.out.keep hk)
      replace Hb := Lib.hid (Hb.out.keep hk)
      replace Hc := Lib.hid (Hc.out.keep hk)
      replace Hu := Lib.hid (Hu.out.keep hk)
      replace Hm := Lib.hid (Hm.out.keep hk)
      replace Hd := Lib.hid (Hd.out.keep hk)
      replace hKc := hKc.trans hk
      clear hk
      clear s1 s2
      go_wp2_with fail
      go_at_call 20
      refine (size_v zm Hm.out.bg (by omega) HZ.out.2.1).mono ?_
      rintro e w128 ⟨rfl, hk⟩
      replace Ha := Lib.hid (Ha.out.keep hk)
      replace Hb := Lib.hid (Hb.out.keep hk)
      replace Hc := Lib.hid (Hc.out.keep hk)
      replace Hu := Lib.hid (Hu.out.keep hk)
      replace Hm := Lib.hid (Hm.out.keep hk)
      replace Hd := Lib.hid (Hd.out.keep hk)
      replace hKc := hKc.trans hk
      clear hk
      go_wp2_with fail
      go_at_call 20
      refine (size_v zf Ha.out (by omega) HZ.out.2.2.2.2.1).mono ?_
      rintro e w129 ⟨rfl, hk⟩
      replace Ha := Lib.hid (Ha.out.keep hk)
      replace Hb := Lib.hid (Hb.out.keep hk)
      replace Hc := Lib.hid (Hc.out.keep hk)
      replace Hu := Lib.hid (Hu.out.keep hk)
      replace Hm := Lib.hid (Hm.out.keep hk)
      replace Hd := Lib.hid (Hd.out.keep hk)
      replace hKc := hKc.trans hk
      clear hk
      have s3 := HW.out.2.2.1
      go_wp2_with fail
      go_at_call 15
      refine (not_o Ha.out (by omega)).mono ?_
      rintro e w130 ⟨Ap, np, cp, rfl, hk, hp, hnp⟩
      replace Ha := Lib.hid (Ha.out.keep hk)
      replace Hb := Lib.hid (Hb.out.keep hk)
      replace Hc := Lib.hid (Hc.out.keep hk)
      replace Hu := Lib.hid (Hu.out.keep hk)
      replace Hm := Lib.hid (Hm.out.keep hk)
      replace Hd := Lib.hid (Hd.out.keep hk)
      replace hKc := hKc.trans hk
      clear hk
      have Hp := Lib.hid hp
      clear hp
      clear s3
      go_wp2_with fail
      go_at_call 20
      refine (size_v zn Hp.out.bg (by omega) HZ.out.2.2.2.1).mono ?_
      rintro e w131 ⟨rfl, hk⟩
      replace Ha := Lib.hid (Ha.out.keep hk)
      replace Hb := Lib.hid (Hb.out.keep hk)
      replace Hc := Lib.hid (Hc.out.keep hk)
      replace Hu := Lib.hid (Hu.out.keep hk)
      replace Hm := Lib.hid (Hm.out.keep hk)
      replace Hd := Lib.hid (Hd.out.keep hk)
      replace Hp := Lib.hid (Hp.out.keep hk)
      replace hKc := hKc.trans hk
      clear hk
      clear Hp
      go_wp2_with fail
      go_at_call 20
      refine (size_v zf Ha.out (by omega) HZ.out.2.2.2.2.1).mono ?_
      rintro e w132 ⟨rfl, hk⟩
      replace Ha := Lib.hid (Ha.out.keep hk)
      replace Hb := Lib.hid (Hb.out.keep hk)
      replace Hc := Lib.hid (Hc.out.keep hk)
      replace Hu := Lib.hid (Hu.out.keep hk)
      replace Hm := Lib.hid (Hm.out.keep hk)
      replace Hd := Lib.hid (Hd.out.keep hk)
      replace hKc := hKc.trans hk
      clear hk
      have s4 := HW.out.2.2.2
      go_wp2_with fail
      go_at_call 12
      refine (union_o Hb.out Hc.out (by omega) (by omega)).mono ?_
      rintro e w133 ⟨Ap, np, cp, rfl, hk, hp, hnp⟩
      replace Ha := Lib.hid (Ha.out.keep hk)
      replace Hb := Lib.hid (Hb.out.keep hk)
      replace Hc := Lib.hid (Hc.out.keep hk)
      replace Hu := Lib.hid (Hu.out.keep hk)
      replace Hm := Lib.hid (Hm.out.keep hk)
      replace Hd := Lib.hid (Hd.out.keep hk)
      replace hKc := hKc.trans hk
      clear hk
      have Hp := Lib.hid hp
      clear hp
      clear s4
      go_wp2_with fail
      go_at_call 13
      refine (meet_o Ha.out Hp.out.bg (by omega) (by omega)).mono ?_
      rintro e w134 ⟨Aq, nq, cq, rfl, hk, hq, hnq⟩
      replace Ha := Lib.hid (Ha.out.keep hk)
      replace Hb := Lib.hid (Hb.out.keep hk)
      replace Hc := Lib.hid (Hc.out.keep hk)
      replace Hu := Lib.hid (Hu.out.keep hk)
      replace Hm := Lib.hid (Hm.out.keep hk)
      replace Hd := Lib.hid (Hd.out.keep hk)
      replace Hp := Lib.hid (Hp.out.keep hk)
      replace hKc := hKc.trans hk
      clear hk
      have Hq := Lib.hid hq
      clear hq
      go_wp2_with fail
      go_at_call 13
      refine (meet_o Ha.out Hc.out (by omega) (by omega)).mono ?_
      rintro e w135 ⟨Ar, nr, cr, rfl, hk, hr, hnr⟩
      replace Ha := Lib.hid (Ha.out.keep hk)
      replace Hb := Lib.hid (Hb.out.keep hk)
      replace Hc := Lib.hid (Hc.out.keep hk)
      replace Hu := Lib.hid (Hu.out.keep hk)
      replace Hm := Lib.hid (Hm.out.keep hk)
      replace Hd := Lib.hid (Hd.out.keep hk)
      replace Hp := Lib.hid (Hp.out.keep hk)
      replace Hq := Lib.hid (Hq.out.keep hk)
      replace hKc := hKc.trans hk
      clear hk
      have Hr := Lib.hid hr
      clear hr
      go_wp2_with fail
      go_at_call 12
      refine (union_o Hm.out.bg Hr.out.bg (by omega) (by omega)).mono ?_
      rintro e w136 ⟨As, ns, cs, rfl, hk, hs, hns⟩
      replace Ha := Lib.hid (Ha.out.keep hk)
      replace Hb := Lib.hid (Hb.out.keep hk)
      replace Hc := Lib.hid (Hc.out.keep hk)
      replace Hu := Lib.hid (Hu.out.keep hk)
      replace Hm := Lib.hid (Hm.out.keep hk)
      replace Hd := Lib.hid (Hd.out.keep hk)
      replace Hp := Lib.hid (Hp.out.keep hk)
      replace Hq := Lib.hid (Hq.out.keep hk)
      replace Hr := Lib.hid (Hr.out.keep hk)
      replace hKc := hKc.trans hk
      clear hk
      have Hs := Lib.hid hs
      clear hs
      go_wp2_with fail
      go_at_call 22
      refine (same_o true Hq.out.bg Hs.out.bg (by omega) (by omega) ⟨fun _ k => (by cases f k <;> cases g k <;> cases h k <;> rfl), fun _ => rfl⟩).mono ?_
      rintro e w137 ⟨rfl, hk⟩
      replace Ha := Lib.hid (Ha.out.keep hk)
      replace Hb := Lib.hid (Hb.out.keep hk)
      replace Hc := Lib.hid (Hc.out.keep hk)
      replace Hu := Lib.hid (Hu.out.keep hk)
      replace Hm := Lib.hid (Hm.out.keep hk)
      replace Hd := Lib.hid (Hd.out.keep hk)
      replace Hp := Lib.hid (Hp.out.keep hk)
      replace Hq := Lib.hid (Hq.out.keep hk)
      replace Hr := Lib.hid (Hr.out.keep hk)
      replace Hs := Lib.hid (Hs.out.keep hk)
      replace hKc := hKc.trans hk
      clear hk
      clear Hp
      clear Hq
      clear Hr
      clear Hs
      go_wp2_with fail
      go_at_call 19
      refine (within_o true Hm.out.bg Ha.out (by omega) (by omega) ⟨fun _ k => (by cases f k <;> simp), fun _ => rfl⟩).mono ?_
      rintro e w138 ⟨rfl, hk⟩
      replace Ha := Lib.hid (Ha.out.keep hk)
      replace Hb := Lib.hid (Hb.out.keep hk)
      replace Hc := Lib.hid (Hc.out.keep hk)
      replace Hu := Lib.hid (Hu.out.keep hk)
      replace Hm := Lib.hid (Hm.out.keep hk)
      replace Hd := Lib.hid (Hd.out.keep hk)
      replace hKc := hKc.trans hk
      clear hk
      go_wp2_with fail
      go_at_call 19
      refine (within_o true Ha.out Hu.out.bg (by omega) (by omega) ⟨fun _ k => (by cases f k <;> simp), fun _ => rfl⟩).mono ?_
      rintro e w139 ⟨rfl, hk⟩
      replace Ha := Lib.hid (Ha.out.keep hk)
      replace Hb := Lib.hid (Hb.out.keep hk)
      replace Hc := Lib.hid (Hc.out.keep hk)
      replace Hu := Lib.hid (Hu.out.keep hk)
      replace Hm := Lib.hid (Hm.out.keep hk)
      replace Hd := Lib.hid (Hd.out.keep hk)
      replace hKc := hKc.trans hk
      clear hk
      go_wp2
      go_ret
      exact ⟨rfl, hKc⟩
    · go_wp2_with fail
      go_at_call 17
      refine (has_v key true Hu.out.bg (by omega) (by rw [HXY.out.1, HXY.out.2]; rfl)).mono ?_
      rintro e w118 ⟨rfl, hk⟩
      replace Ha := Lib.hid (Ha.out.keep hk)
      replace Hb := Lib.hid (Hb.out.keep hk)
      replace Hc := Lib.hid (Hc.out.keep hk)
      replace Hu := Lib.hid (Hu.out.keep hk)
      replace Hm := Lib.hid (Hm.out.keep hk)
      replace Hd := Lib.hid (Hd.out.keep hk)
      replace hKc := hKc.trans hk
      clear hk
      go_wp2_with fail
      go_at_call 17
      refine (has_v key false Hm.out.bg (by omega) (by rw [HXY.out.1, HXY.out.2]; rfl)).mono ?_
      rintro e w119 ⟨rfl, hk⟩
      replace Ha := Lib.hid (Ha.out.keep hk)
      replace Hb := Lib.hid (Hb.out.keep hk)
      replace Hc := Lib.hid (Hc.out.keep hk)
      replace Hu := Lib.hid (Hu.out.keep hk)
      replace Hm := Lib.hid (Hm.out.keep hk)
      replace Hd := Lib.hid (Hd.out.keep hk)
      replace hKc := hKc.trans hk
      clear hk
      go_wp2_with fail
      go_at_call 17
      refine (has_v key false Hd.out.bg (by omega) (by rw [HXY.out.1, HXY.out.2]; rfl)).mono ?_
      rintro e w120 ⟨rfl, hk⟩
      replace Ha := Lib.hid (Ha.out.keep hk)
      replace Hb := Lib.hid (Hb.out.keep hk)
      replace Hc := Lib.hid (Hc.out.keep hk)
      replace Hu := Lib.hid (Hu.out.keep hk)
      replace Hm := Lib.hid (Hm.out.keep hk)
      replace Hd := Lib.hid (Hd.out.keep hk)
      replace hKc := hKc.trans hk
      clear hk
      go_wp2_with fail
      go_at_call 15
      refine (not_o Ha.out (by omega)).mono ?_
      rintro e w121 ⟨Ap, np, cp, rfl, hk, hp, hnp⟩
      replace Ha := Lib.hid (Ha.out.keep hk)
      replace Hb := Lib.hid (Hb.out.keep hk)
      replace Hc := Lib.hid (Hc.out.keep hk)
      replace Hu := Lib.hid (Hu.out.keep hk)
      replace Hm := Lib.hid (Hm.out.keep hk)
      replace Hd := Lib.hid (Hd.out.keep hk)
      replace hKc := hKc.trans hk
      clear hk
      have Hp := Lib.hid hp
      clear hp
      go_wp2_with fail
      go_at_call 17
      refine (has_v key true Hp.out.bg (by omega) (by rw [HXY.out.1, HKY.out]; rfl)).mono ?_
      rintro e w122 ⟨rfl, hk⟩
      replace Ha := Lib.hid (Ha.out.keep hk)
      replace Hb := Lib.hid (Hb.out.keep hk)
      replace Hc := Lib.hid (Hc.out.keep hk)
      replace Hu := Lib.hid (Hu.out.keep hk)
      replace Hm := Lib.hid (Hm.out.keep hk)
      replace Hd := Lib.hid (Hd.out.keep hk)
      replace Hp := Lib.hid (Hp.out.keep hk)
      replace hKc := hKc.trans hk
      clear hk
      clear Hp
      go_wp2_with fail
      go_at_call 20
      refine (size_v zu Hu.out.bg (by omega) HZ.out.1).mono ?_
      rintro e w123 ⟨rfl, hk⟩
      replace Ha := Lib.hid (Ha.out.keep hk)
      replace Hb := Lib.hid (Hb.out.keep hk)
      replace Hc := Lib.hid (Hc.out.keep hk)
      replace Hu := Lib.hid (Hu.out.keep hk)
      replace Hm := Lib.hid (Hm.out.keep hk)
      replace Hd := Lib.hid (Hd.out.keep hk)
      replace hKc := hKc.trans hk
      clear hk
      go_wp2_with fail
      go_at_call 20
      refine (size_v zm Hm.out.bg (by omega) HZ.out.2.1).mono ?_
      rintro e w124 ⟨rfl, hk⟩
      replace Ha := Lib.hid (Ha.out.keep hk)
      replace Hb := Lib.hid (Hb.out.keep hk)
      replace Hc := Lib.hid (Hc.out.keep hk)
      replace Hu := Lib.hid (Hu.out.keep hk)
      replace Hm := Lib.hid (Hm.out.keep hk)
      replace Hd := Lib.hid (Hd.out.keep hk)
      replace hKc := hKc.trans hk
      clear hk
      go_wp2_with fail
      go_at_call 20
      refine (size_v zf Ha.out (by omega) HZ.out.2.2.2.2.1).mono ?_
      rintro e w125 ⟨rfl, hk⟩
      replace Ha := Lib.hid (Ha.out.keep hk)
      replace Hb := Lib.hid (Hb.out.keep hk)
      replace Hc := Lib.hid (Hc.out.keep hk)
      replace Hu := Lib.hid (Hu.out.keep hk)
      replace Hm := Lib.hid (Hm.out.keep hk)
      replace Hd := Lib.hid (Hd.out.keep hk)
      replace hKc := hKc.trans hk
      clear hk
      go_wp2_with fail
      go_at_call 20
      refine (size_v zg Hb.out (by omega) HZ.out.2.2.2.2.2).mono ?_
      rintro e w126 ⟨rfl, hk⟩
      replace Ha := Lib.hid (Ha.out.keep hk)
      replace Hb := Lib.hid (Hb.out.keep hk)
      replace Hc := Lib.hid (Hc.out.keep hk)
      replace Hu := Lib.hid (Hu.out.keep hk)
      replace Hm := Lib.hid (Hm.out.keep hk)
      replace Hd := Lib.hid (Hd.out.keep hk)
      replace hKc := hKc.trans hk
      clear hk
      have s1 := HW.out.1
      have s2 := HW.out.2.1
      go_wp2_with fail
      go_at_call 20
      refine (size_v zd Hd.out.bg (by omega) HZ.out.2.2.1).mono ?_
      rintro e w127 ⟨rfl, hk⟩
      replace Ha := Lib.hid (Ha.out.keep hk)
      replace Hb := Lib.hid (Hb.out.keep hk)
      replace Hc := Lib.hid (Hc.out.keep hk)
      replace Hu := Lib.hid (Hu.out.keep hk)
      replace Hm := Lib.hid (Hm.out.keep hk)
      replace Hd := Lib.hid (Hd.out.keep hk)
      replace hKc := hKc.trans hk
      clear hk
      clear s1 s2
      go_wp2_with fail
      go_at_call 20
      refine (size_v zm Hm.out.bg (by omega) HZ.out.2.1).mono ?_
      rintro e w128 ⟨rfl, hk⟩
      replace Ha := Lib.hid (Ha.out.keep hk)
      replace Hb := Lib.hid (Hb.out.keep hk)
      replace Hc := Lib.hid (Hc.out.keep hk)
      replace Hu := Lib.hid (Hu.out.keep hk)
      replace Hm := Lib.hid (Hm.out.keep hk)
      replace Hd := Lib.hid (Hd.out.keep hk)
      replace hKc := hKc.trans hk
      clear hk
      go_wp2_with fail
      go_at_call 20
      refine (size_v zf Ha.out (by omega) HZ.out.2.2.2.2.1).mono ?_
      rintro e w129 ⟨rfl, hk⟩
      replace Ha := Lib.hid (Ha.out.keep hk)
      replace Hb := Lib.hid (Hb.out.keep hk)
      replace Hc := Lib.hid (Hc.out.keep hk)
      replace Hu := Lib.hid (Hu.out.keep hk)
      replace Hm := Lib.hid (Hm.out.keep hk)
      replace Hd := Lib.hid (Hd.out.keep hk)
      replace hKc := hKc.trans hk
      clear hk
      have s3 := HW.out.2.2.1
      go_wp2_with fail
      go_at_call 15
      refine (not_o Ha.out (by omega)).mono ?_
      rintro e w130 ⟨Ap, np, cp, rfl, hk, hp, hnp⟩
      replace Ha := Lib.hid (Ha.out.keep hk)
      replace Hb := Lib.hid (Hb.out.keep hk)
      replace Hc := Lib.hid (Hc.out.keep hk)
      replace Hu := Lib.hid (Hu.out.keep hk)
      replace Hm := Lib.hid (Hm.out.keep hk)
      replace Hd := Lib.hid (Hd.out.keep hk)
      replace hKc := hKc.trans hk
      clear hk
      have Hp := Lib.hid hp
      clear hp
      clear s3
      go_wp2_with fail
      go_at_call 20
      refine (size_v zn Hp.out.bg (by omega) HZ.out.2.2.2.1).mono ?_
      rintro e w131 ⟨rfl, hk⟩
      replace Ha := Lib.hid (Ha.out.keep hk)
      replace Hb := Lib.hid (Hb.out.keep hk)
      replace Hc := Lib.hid (Hc.out.keep hk)
      replace Hu := Lib.hid (Hu.out.keep hk)
      replace Hm := Lib.hid (Hm.out.keep hk)
      replace Hd := Lib.hid (Hd.out.keep hk)
      replace Hp := Lib.hid (Hp.out.keep hk)
      replace hKc := hKc.trans hk
      clear hk
      clear Hp
      go_wp2_with fail
      go_at_call 20
      refine (size_v zf Ha.out (by omega) HZ.out.2.2.2.2.1).mono ?_
      rintro e w132 ⟨rfl, hk⟩
      replace Ha := Lib.hid (Ha.out.keep hk)
      replace Hb := Lib.hid (Hb.out.keep hk)
      replace Hc := Lib.hid (Hc.out.keep hk)
      replace Hu := Lib.hid (Hu.out.keep hk)
      replace Hm := Lib.hid (Hm.out.keep hk)
      replace Hd := Lib.hid (Hd.out.keep hk)
      replace hKc := hKc.trans hk
      clear hk
      have s4 := HW.out.2.2.2
      go_wp2_with fail
      go_at_call 12
      refine (union_o Hb.out Hc.out (by omega) (by omega)).mono ?_
      rintro e w133 ⟨Ap, np, cp, rfl, hk, hp, hnp⟩
      replace Ha := Lib.hid (Ha.out.keep hk)
      replace Hb := Lib.hid (Hb.out.keep hk)
      replace Hc := Lib.hid (Hc.out.keep hk)
      replace Hu := Lib.hid (Hu.out.keep hk)
      replace Hm := Lib.hid (Hm.out.keep hk)
      replace Hd := Lib.hid (Hd.out.keep hk)
      replace hKc := hKc.trans hk
      clear hk
      have Hp := Lib.hid hp
      clear hp
      clear s4
      go_wp2_with fail
      go_at_call 13
      refine (meet_o Ha.out Hp.out.bg (by omega) (by omega)).mono ?_
      rintro e w134 ⟨Aq, nq, cq, rfl, hk, hq, hnq⟩
      replace Ha := Lib.hid (Ha.out.keep hk)
      replace Hb := Lib.hid (Hb.out.keep hk)
      replace Hc := Lib.hid (Hc.out.keep hk)
      replace Hu := Lib.hid (Hu.out.keep hk)
      replace Hm := Lib.hid (Hm.out.keep hk)
      replace Hd := Lib.hid (Hd.out.keep hk)
      replace Hp := Lib.hid (Hp.out.keep hk)
      replace hKc := hKc.trans hk
      clear hk
      have Hq := Lib.hid hq
      clear hq
      go_wp2_with fail
      go_at_call 13
      refine (meet_o Ha.out Hc.out (by omega) (by omega)).mono ?_
      rintro e w135 ⟨Ar, nr, cr, rfl, hk, hr, hnr⟩
      replace Ha := Lib.hid (Ha.out.keep hk)
      replace Hb := Lib.hid (Hb.out.keep hk)
      replace Hc := Lib.hid (Hc.out.keep hk)
      replace Hu := Lib.hid (Hu.out.keep hk)
      replace Hm := Lib.hid (Hm.out.keep hk)
      replace Hd := Lib.hid (Hd.out.keep hk)
      replace Hp := Lib.hid (Hp.out.keep hk)
      replace Hq := Lib.hid (Hq.out.keep hk)
      replace hKc := hKc.trans hk
      clear hk
      have Hr := Lib.hid hr
      clear hr
      go_wp2_with fail
      go_at_call 12
      refine (union_o Hm.out.bg Hr.out.bg (by omega) (by omega)).mono ?_
      rintro e w136 ⟨As, ns, cs, rfl, hk, hs, hns⟩
      replace Ha := Lib.hid (Ha.out.keep hk)
      replace Hb := Lib.hid (Hb.out.keep hk)
      replace Hc := Lib.hid (Hc.out.keep hk)
      replace Hu := Lib.hid (Hu.out.keep hk)
      replace Hm := Lib.hid (Hm.out.keep hk)
      replace Hd := Lib.hid (Hd.out.keep hk)
      replace Hp := Lib.hid (Hp.out.keep hk)
      replace Hq := Lib.hid (Hq.out.keep hk)
      replace Hr := Lib.hid (Hr.out.keep hk)
      replace hKc := hKc.trans hk
      clear hk
      have Hs := Lib.hid hs
      clear hs
      go_wp2_with fail
      go_at_call 22
      refine (same_o true Hq.out.bg Hs.out.bg (by omega) (by omega) ⟨fun _ k => (by cases f k <;> cases g k <;> cases h k <;> rfl), fun _ => rfl⟩).mono ?_
      rintro e w137 ⟨rfl, hk⟩
      replace Ha := Lib.hid (Ha.out.keep hk)
      replace Hb := Lib.hid (Hb.out.keep hk)
      replace Hc := Lib.hid (Hc.out.keep hk)
      replace Hu := Lib.hid (Hu.out.keep hk)
      replace Hm := Lib.hid (Hm.out.keep hk)
      replace Hd := Lib.hid (Hd.out.keep hk)
      replace Hp := Lib.hid (Hp.out.keep hk)
      replace Hq := Lib.hid (Hq.out.keep hk)
      replace Hr := Lib.hid (Hr.out.keep hk)
      replace Hs := Lib.hid (Hs.out.keep hk)
      replace hKc := hKc.trans hk
      clear hk
      clear Hp
      clear Hq
      clear Hr
      clear Hs
      go_wp2_with fail
      go_at_call 19
      refine (within_o true Hm.out.bg Ha.out (by omega) (by omega) ⟨fun _ k => (by cases f k <;> simp), fun _ => rfl⟩).mono ?_
      rintro e w138 ⟨rfl, hk⟩
      replace Ha := Lib.hid (Ha.out.keep hk)
      replace Hb := Lib.hid (Hb.out.keep hk)
      replace Hc := Lib.hid (Hc.out.keep hk)
      replace Hu := Lib.hid (Hu.out.keep hk)
      replace Hm := Lib.hid (Hm.out.keep hk)
      replace Hd := Lib.hid (Hd.out.keep hk)
      replace hKc := hKc.trans hk
      clear hk
      go_wp2_with fail
      go_at_call 19
      refine (within_o true Ha.out Hu.out.bg (by omega) (by omega) ⟨fun _ k => (by cases f k <;> simp), fun _ => rfl⟩).mono ?_
      rintro e w139 ⟨rfl, hk⟩
      replace Ha := Lib.hid (Ha.out.keep hk)
      replace Hb := Lib.hid (Hb.out.keep hk)
      replace Hc := Lib.hid (Hc.out.keep hk)
      replace Hu := Lib.hid (Hu.out.keep hk)
      replace Hm := Lib.hid (Hm.out.keep hk)
      replace Hd := Lib.hid (Hd.out.keep hk)
      replace hKc := hKc.trans hk
      clear hk
      go_wp2
      go_ret
      exact ⟨rfl, hKc⟩
  · cases y
    · go_wp2_with fail
      go_at_call 17
      refine (has_v key true Hu.out.bg (by omega) (by rw [HXY.out.1, HXY.out.2]; rfl)).mono ?_
      rintro e w118 ⟨rfl, hk⟩
      replace Ha := Lib.hid (Ha.out.keep hk)
      replace Hb := Lib.hid (Hb.out.keep hk)
      replace Hc := Lib.hid (Hc.out.keep hk)
      replace Hu := Lib.hid (Hu.out.keep hk)
      replace Hm := Lib.hid (Hm.out.keep hk)
      replace Hd := Lib.hid (Hd.out.keep hk)
      replace hKc := hKc.trans hk
      clear hk
      go_wp2_with fail
      go_at_call 17
      refine (has_v key false Hm.out.bg (by omega) (by rw [HXY.out.1, HXY.out.2]; rfl)).mono ?_
      rintro e w119 ⟨rfl, hk⟩
      replace Ha := Lib.hid (Ha.out.keep hk)
      replace Hb := Lib.hid (Hb.out.keep hk)
      replace Hc := Lib.hid (Hc.out.keep hk)
      replace Hu := Lib.hid (Hu.out.keep hk)
      replace Hm := Lib.hid (Hm.out.keep hk)
      replace Hd := Lib.hid (Hd.out.keep hk)
      replace hKc := hKc.trans hk
      clear hk
      go_wp2_with fail
      go_at_call 17
      refine (has_v key true Hd.out.bg (by omega) (by rw [HXY.out.1, HXY.out.2]; rfl)).mono ?_
      rintro e w120 ⟨rfl, hk⟩
      replace Ha := Lib.hid (Ha.out.keep hk)
      replace Hb := Lib.hid (Hb.out.keep hk)
      replace Hc := Lib.hid (Hc.out.keep hk)
      replace Hu := Lib.hid (Hu.out.keep hk)
      replace Hm := Lib.hid (Hm.out.keep hk)
      replace Hd := Lib.hid (Hd.out.keep hk)
      replace hKc := hKc.trans hk
      clear hk
      go_wp2_with fail
      go_at_call 15
      refine (not_o Ha.out (by omega)).mono ?_
      rintro e w121 ⟨Ap, np, cp, rfl, hk, hp, hnp⟩
      replace Ha := Lib.hid (Ha.out.keep hk)
      replace Hb := Lib.hid (Hb.out.keep hk)
      replace Hc := Lib.hid (Hc.out.keep hk)
      replace Hu := Lib.hid (Hu.out.keep hk)
      replace Hm := Lib.hid (Hm.out.keep hk)
      replace Hd := Lib.hid (Hd.out.keep hk)
      replace hKc := hKc.trans hk
      clear hk
      have Hp := Lib.hid hp
      clear hp
      go_wp2_with fail
      go_at_call 17
      refine (has_v key false Hp.out.bg (by omega) (by rw [HXY.out.1, HKY.out]; rfl)).mono ?_
      rintro e w122 ⟨rfl, hk⟩
      replace Ha := Lib.hid (Ha.out.keep hk)
      replace Hb := Lib.hid (Hb.out.keep hk)
      replace Hc := Lib.hid (Hc.out.keep hk)
      replace Hu := Lib.hid (Hu.out.keep hk)
      replace Hm := Lib.hid (Hm.out.keep hk)
      replace Hd := Lib.hid (Hd.out.keep hk)
      replace Hp := Lib.hid (Hp.out.keep hk)
      replace hKc := hKc.trans hk
      clear hk
      clear Hp
      go_wp2_with fail
      go_at_call 20
      refine (size_v zu Hu.out.bg (by omega) HZ.out.1).mono ?_
      rintro e w123 ⟨rfl, hk⟩
      replace Ha := Lib.hid (Ha.out.keep hk)
      replace Hb := Lib.hid (Hb.out.keep hk)
      replace Hc := Lib.hid (Hc.out.keep hk)
      replace Hu := Lib.hid (Hu.out.keep hk)
      replace Hm := Lib.hid (Hm.out.keep hk)
      replace Hd := Lib.hid (Hd.out.keep hk)
      replace hKc := hKc.trans hk
      clear hk
      go_wp2_with fail
      go_at_call 20
      refine (size_v zm Hm.out.bg (by omega) HZ.out.2.1).mono ?_
      rintro e w124 ⟨rfl, hk⟩
      replace Ha := Lib.hid (Ha.out.keep hk)
      replace Hb := Lib.hid (Hb.out.keep hk)
      replace Hc := Lib.hid (Hc.out.keep hk)
      replace Hu := Lib.hid (Hu.out.keep hk)
      replace Hm := Lib.hid (Hm.out.keep hk)
      replace Hd := Lib.hid (Hd.out.keep hk)
      replace hKc := hKc.trans hk
      clear hk
      go_wp2_with fail
      go_at_call 20
      refine (size_v zf Ha.out (by omega) HZ.out.2.2.2.2.1).mono ?_
      rintro e w125 ⟨rfl, hk⟩
      replace Ha := Lib.hid (Ha.out.keep hk)
      replace Hb := Lib.hid (Hb.out.keep hk)
      replace Hc := Lib.hid (Hc.out.keep hk)
      replace Hu := Lib.hid (Hu.out.keep hk)
      replace Hm := Lib.hid (Hm.out.keep hk)
      replace Hd := Lib.hid (Hd.out.keep hk)
      replace hKc := hKc.trans hk
      clear hk
      go_wp2_with fail
      go_at_call 20
      refine (size_v zg Hb.out (by omega) HZ.out.2.2.2.2.2).mono ?_
      rintro e w126 ⟨rfl, hk⟩
      replace Ha := Lib.hid (Ha.out.keep hk)
      replace Hb := Lib.hid (Hb.out.keep hk)
      replace Hc := Lib.hid (Hc.out.keep hk)
      replace Hu := Lib.hid (Hu.out.keep hk)
      replace Hm := Lib.hid (Hm.out.keep hk)
      replace Hd := Lib.hid (Hd.out.keep hk)
      replace hKc := hKc.trans hk
      clear hk
      have s1 := HW.out.1
      have s2 := HW.out.2.1
      go_wp2_with fail
      go_at_call 20
      refine (size_v zd Hd.out.bg (by omega) HZ.out.2.2.1).mono ?_
      rintro e w127 ⟨rfl, hk⟩
      replace Ha := Lib.hid (Ha.out.keep hk)
      replace Hb := Lib.hid (Hb.out.keep hk)
      replace Hc := Lib.hid (Hc.out.keep hk)
      replace Hu := Lib.hid (Hu.out.keep hk)
      replace Hm := Lib.hid (Hm.out.keep hk)
      replace Hd := Lib.hid (Hd.out.keep hk)
      replace hKc := hKc.trans hk
      clear hk
      clear s1 s2
      go_wp2_with fail
      go_at_call 20
      refine (size_v zm Hm.out.bg (by omega) HZ.out.2.1).mono ?_
      rintro e w128 ⟨rfl, hk⟩
      replace Ha := Lib.hid (Ha.out.keep hk)
      replace Hb := Lib.hid (Hb.out.keep hk)
      replace Hc := Lib.hid (Hc.out.keep hk)
      replace Hu := Lib.hid (Hu.out.keep hk)
      replace Hm := Lib.hid (Hm.out.keep hk)
      replace Hd := Lib.hid (Hd.out.keep hk)
      replace hKc := hKc.trans hk
      clear hk
      go_wp2_with fail
      go_at_call 20
      refine (size_v zf Ha.out (by omega) HZ.out.2.2.2.2.1).mono ?_
      rintro e w129 ⟨rfl, hk⟩
      replace Ha := Lib.hid (Ha.out.keep hk)
      replace Hb := Lib.hid (Hb.out.keep hk)
      replace Hc := Lib.hid (Hc.out.keep hk)
      replace Hu := Lib.hid (Hu.out.keep hk)
      replace Hm := Lib.hid (Hm.out.keep hk)
      replace Hd := Lib.hid (Hd.out.keep hk)
      replace hKc := hKc.trans hk
      clear hk
      have s3 := HW.out.2.2.1
      go_wp2_with fail
      go_at_call 15
      refine (not_o Ha.out (by omega)).mono ?_
      rintro e w130 ⟨Ap, np, cp, rfl, hk, hp, hnp⟩
      replace Ha := Lib.hid (Ha.out.keep hk)
      replace Hb := Lib.hid (Hb.out.keep hk)
      replace Hc := Lib.hid (Hc.out.keep hk)
      replace Hu := Lib.hid (Hu.out.keep hk)
      replace Hm := Lib.hid (Hm.out.keep hk)
      replace Hd := Lib.hid (Hd.out.keep hk)
      replace hKc := hKc.trans hk
      clear hk
      have Hp := Lib.hid hp
      clear hp
      clear s3
      go_wp2_with fail
      go_at_call 20
      refine (size_v zn Hp.out.bg (by omega) HZ.out.2.2.2.1).mono ?_
      rintro e w131 ⟨rfl, hk⟩
      replace Ha := Lib.hid (Ha.out.keep hk)
      replace Hb := Lib.hid (Hb.out.keep hk)
      replace Hc := Lib.hid (Hc.out.keep hk)
      replace Hu := Lib.hid (Hu.out.keep hk)
      replace Hm := Lib.hid (Hm.out.keep hk)
      replace Hd := Lib.hid (Hd.out.keep hk)
      replace Hp := Lib.hid (Hp.out.keep hk)
      replace hKc := hKc.trans hk
      clear hk
      clear Hp
      go_wp2_with fail
      go_at_call 20
      refine (size_v zf Ha.out (by omega) HZ.out.2.2.2.2.1).mono ?_
      rintro e w132 ⟨rfl, hk⟩
      replace Ha := Lib.hid (Ha.out.keep hk)
      replace Hb := Lib.hid (Hb.out.keep hk)
      replace Hc := Lib.hid (Hc.out.keep hk)
      replace Hu := Lib.hid (Hu.out.keep hk)
      replace Hm := Lib.hid (Hm.out.keep hk)
      replace Hd := Lib.hid (Hd.out.keep hk)
      replace hKc := hKc.trans hk
      clear hk
      have s4 := HW.out.2.2.2
      go_wp2_with fail
      go_at_call 12
      refine (union_o Hb.out Hc.out (by omega) (by omega)).mono ?_
      rintro e w133 ⟨Ap, np, cp, rfl, hk, hp, hnp⟩
      replace Ha := Lib.hid (Ha.out.keep hk)
      replace Hb := Lib.hid (Hb.out.keep hk)
      replace Hc := Lib.hid (Hc.out.keep hk)
      replace Hu := Lib.hid (Hu.out.keep hk)
      replace Hm := Lib.hid (Hm.out.keep hk)
      replace Hd := Lib.hid (Hd.out.keep hk)
      replace hKc := hKc.trans hk
      clear hk
      have Hp := Lib.hid hp
      clear hp
      clear s4
      go_wp2_with fail
      go_at_call 13
      refine (meet_o Ha.out Hp.out.bg (by omega) (by omega)).mono ?_
      rintro e w134 ⟨Aq, nq, cq, rfl, hk, hq, hnq⟩
      replace Ha := Lib.hid (Ha.out.keep hk)
      replace Hb := Lib.hid (Hb.out.keep hk)
      replace Hc := Lib.hid (Hc.out.keep hk)
      replace Hu := Lib.hid (Hu.out.keep hk)
      replace Hm := Lib.hid (Hm.out.keep hk)
      replace Hd := Lib.hid (Hd.out.keep hk)
      replace Hp := Lib.hid (Hp.out.keep hk)
      replace hKc := hKc.trans hk
      clear hk
      have Hq := Lib.hid hq
      clear hq
      go_wp2_with fail
      go_at_call 13
      refine (meet_o Ha.out Hc.out (by omega) (by omega)).mono ?_
      rintro e w135 ⟨Ar, nr, cr, rfl, hk, hr, hnr⟩
      replace Ha := Lib.hid (Ha.out.keep hk)
      replace Hb := Lib.hid (Hb.out.keep hk)
      replace Hc := Lib.hid (Hc.out.keep hk)
      replace Hu := Lib.hid (Hu.out.keep hk)
      replace Hm := Lib.hid (Hm.out.keep hk)
      replace Hd := Lib.hid (Hd.out.keep hk)
      replace Hp := Lib.hid (Hp.out.keep hk)
      replace Hq := Lib.hid (Hq.out.keep hk)
      replace hKc := hKc.trans hk
      clear hk
      have Hr := Lib.hid hr
      clear hr
      go_wp2_with fail
      go_at_call 12
      refine (union_o Hm.out.bg Hr.out.bg (by omega) (by omega)).mono ?_
      rintro e w136 ⟨As, ns, cs, rfl, hk, hs, hns⟩
      replace Ha := Lib.hid (Ha.out.keep hk)
      replace Hb := Lib.hid (Hb.out.keep hk)
      replace Hc := Lib.hid (Hc.out.keep hk)
      replace Hu := Lib.hid (Hu.out.keep hk)
      replace Hm := Lib.hid (Hm.out.keep hk)
      replace Hd := Lib.hid (Hd.out.keep hk)
      replace Hp := Lib.hid (Hp.out.keep hk)
      replace Hq := Lib.hid (Hq.out.keep hk)
      replace Hr := Lib.hid (Hr.out.keep hk)
      replace hKc := hKc.trans hk
      clear hk
      have Hs := Lib.hid hs
      clear hs
      go_wp2_with fail
      go_at_call 22
      refine (same_o true Hq.out.bg Hs.out.bg (by omega) (by omega) ⟨fun _ k => (by cases f k <;> cases g k <;> cases h k <;> rfl), fun _ => rfl⟩).mono ?_
      rintro e w137 ⟨rfl, hk⟩
      replace Ha := Lib.hid (Ha.out.keep hk)
      replace Hb := Lib.hid (Hb.out.keep hk)
      replace Hc := Lib.hid (Hc.out.keep hk)
      replace Hu := Lib.hid (Hu.out.keep hk)
      replace Hm := Lib.hid (Hm.out.keep hk)
      replace Hd := Lib.hid (Hd.out.keep hk)
      replace Hp := Lib.hid (Hp.out.keep hk)
      replace Hq := Lib.hid (Hq.out.keep hk)
      replace Hr := Lib.hid (Hr.out.keep hk)
      replace Hs := Lib.hid (Hs.out.keep hk)
      replace hKc := hKc.trans hk
      clear hk
      clear Hp
      clear Hq
      clear Hr
      clear Hs
      go_wp2_with fail
      go_at_call 19
      refine (within_o true Hm.out.bg Ha.out (by omega) (by omega) ⟨fun _ k => (by cases f k <;> simp), fun _ => rfl⟩).mono ?_
      rintro e w138 ⟨rfl, hk⟩
      replace Ha := Lib.hid (Ha.out.keep hk)
      replace Hb := Lib.hid (Hb.out.keep hk)
      replace Hc := Lib.hid (Hc.out.keep hk)
      replace Hu := Lib.hid (Hu.out.keep hk)
      replace Hm := Lib.hid (Hm.out.keep hk)
      replace Hd := Lib.hid (Hd.out.keep hk)
      replace hKc := hKc.trans hk
      clear hk
      go_wp2_with fail
      go_at_call 19
      refine (within_o true Ha.out Hu.out.bg (by omega) (by omega) ⟨fun _ k => (by cases f k <;> simp), fun _ => rfl⟩).mono ?_
      rintro e w139 ⟨rfl, hk⟩
      replace Ha := Lib.hid (Ha.out.keep hk)
      replace Hb := Lib.hid (Hb.out.keep hk)
      replace Hc := Lib.hid (Hc.out.keep hk)
      replace Hu := Lib.hid (Hu.out.keep hk)
      replace Hm := Lib.hid (Hm.out.keep hk)
      replace Hd := Lib.hid (Hd.out.keep hk)
      replace hKc := hKc.trans hk
      clear hk
      go_wp2
      go_ret
      exact ⟨rfl, hKc⟩
    · go_wp2_with fail
      go_at_call 17
      refine (has_v key true Hu.out.bg (by omega) (by rw [HXY.out.1, HXY.out.2]; rfl)).mono ?_
      rintro e w118 ⟨rfl, hk⟩
      replace Ha := Lib.hid (Ha.out.keep hk)
      replace Hb := Lib.hid (Hb.out.keep hk)
      replace Hc := Lib.hid (Hc.out.keep hk)
      replace Hu := Lib.hid (Hu.out.keep hk)
      replace Hm := Lib.hid (Hm.out.keep hk)
      replace Hd := Lib.hid (Hd.out.keep hk)
      replace hKc := hKc.trans hk
      clear hk
      go_wp2_with fail
      go_at_call 17
      refine (has_v key true Hm.out.bg (by omega) (by rw [HXY.out.1, HXY.out.2]; rfl)).mono ?_
      rintro e w119 ⟨rfl, hk⟩
      replace Ha := Lib.hid (Ha.out.keep hk)
      replace Hb := Lib.hid (Hb.out.keep hk)
      replace Hc := Lib.hid (Hc.out.keep hk)
      replace Hu := Lib.hid (Hu.out.keep hk)
      replace Hm := Lib.hid (Hm.out.keep hk)
      replace Hd := Lib.hid (Hd.out.keep hk)
      replace hKc := hKc.trans hk
      clear hk
      go_wp2_with fail
      go_at_call 17
      refine (has_v key false Hd.out.bg (by omega) (by rw [HXY.out.1, HXY.out.2]; rfl)).mono ?_
      rintro e w120 ⟨rfl, hk⟩
      replace Ha := Lib.hid (Ha.out.keep hk)
      replace Hb := Lib.hid (Hb.out.keep hk)
      replace Hc := Lib.hid (Hc.out.keep hk)
      replace Hu := Lib.hid (Hu.out.keep hk)
      replace Hm := Lib.hid (Hm.out.keep hk)
      replace Hd := Lib.hid (Hd.out.keep hk)
      replace hKc := hKc.trans hk
      clear hk
      go_wp2_with fail
      go_at_call 15
      refine (not_o Ha.out (by omega)).mono ?_
      rintro e w121 ⟨Ap, np, cp, rfl, hk, hp, hnp⟩
      replace Ha := Lib.hid (Ha.out.keep hk)
      replace Hb := Lib.hid (Hb.out.keep hk)
      replace Hc := Lib.hid (Hc.out.keep hk)
      replace Hu := Lib.hid (Hu.out.keep hk)
      replace Hm := Lib.hid (Hm.out.keep hk)
      replace Hd := Lib.hid (Hd.out.keep hk)
      replace hKc := hKc.trans hk
      clear hk
      have Hp := Lib.hid hp
      clear hp
      go_wp2_with fail
      go_at_call 17
      refine (has_v key false Hp.out.bg (by omega) (by rw [HXY.out.1, HKY.out]; rfl)).mono ?_
      rintro e w122 ⟨rfl, hk⟩
      replace Ha := Lib.hid (Ha.out.keep hk)
      replace Hb := Lib.hid (Hb.out.keep hk)
      replace Hc := Lib.hid (Hc.out.keep hk)
      replace Hu := Lib.hid (Hu.out.keep hk)
      replace Hm := Lib.hid (Hm.out.keep hk)
      replace Hd := Lib.hid (Hd.out.keep hk)
      replace Hp := Lib.hid (Hp.out.keep hk)
      replace hKc := hKc.trans hk
      clear hk
      clear Hp
      go_wp2_with fail
      go_at_call 20
      refine (size_v zu Hu.out.bg (by omega) HZ.out.1).mono ?_
      rintro e w123 ⟨rfl, hk⟩
      replace Ha := Lib.hid (Ha.out.keep hk)
      replace Hb := Lib.hid (Hb.out.keep hk)
      replace Hc := Lib.hid (Hc.out.keep hk)
      replace Hu := Lib.hid (Hu.out.keep hk)
      replace Hm := Lib.hid (Hm.out.keep hk)
      replace Hd := Lib.hid (Hd.out.keep hk)
      replace hKc := hKc.trans hk
      clear hk
      go_wp2_with fail
      go_at_call 20
      refine (size_v zm Hm.out.bg (by omega) HZ.out.2.1).mono ?_
      rintro e w124 ⟨rfl, hk⟩
      replace Ha := Lib.hid (Ha.out.keep hk)
      replace Hb := Lib.hid (Hb.out.keep hk)
      replace Hc := Lib.hid (Hc.out.keep hk)
      replace Hu := Lib.hid (Hu.out.keep hk)
      replace Hm := Lib.hid (Hm.out.keep hk)
      replace Hd := Lib.hid (Hd.out.keep hk)
      replace hKc := hKc.trans hk
      clear hk
      go_wp2_with fail
      go_at_call 20
      refine (size_v zf Ha.out (by omega) HZ.out.2.2.2.2.1).mono ?_
      rintro e w125 ⟨rfl, hk⟩
      replace Ha := Lib.hid (Ha.out.keep hk)
      replace Hb := Lib.hid (Hb.out.keep hk)
      replace Hc := Lib.hid (Hc.out.keep hk)
      replace Hu := Lib.hid (Hu.out.keep hk)
      replace Hm := Lib.hid (Hm.out.keep hk)
      replace Hd := Lib.hid (Hd.out.keep hk)
      replace hKc := hKc.trans hk
      clear hk
      go_wp2_with fail
      go_at_call 20
      refine (size_v zg Hb.out (by omega) HZ.out.2.2.2.2.2).mono ?_
      rintro e w126 ⟨rfl, hk⟩
      replace Ha := Lib.hid (Ha.out.keep hk)
      replace Hb := Lib.hid (Hb.out.keep hk)
      replace Hc := Lib.hid (Hc.out.keep hk)
      replace Hu := Lib.hid (Hu.out.keep hk)
      replace Hm := Lib.hid (Hm.out.keep hk)
      replace Hd := Lib.hid (Hd.out.keep hk)
      replace hKc := hKc.trans hk
      clear hk
      have s1 := HW.out.1
      have s2 := HW.out.2.1
      go_wp2_with fail
      go_at_call 20
      refine (size_v zd Hd.out.bg (by omega) HZ.out.2.2.1).mono ?_
      rintro e w127 ⟨rfl, hk⟩
      replace Ha := Lib.hid (Ha.out.keep hk)
      replace Hb := Lib.hid (Hb.out.keep hk)
      replace Hc := Lib.hid (Hc.out.keep hk)
      replace Hu := Lib.hid (Hu.out.keep hk)
      replace Hm := Lib.hid (Hm.out.keep hk)
      replace Hd := Lib.hid (Hd.out.keep hk)
      replace hKc := hKc.trans hk
      clear hk
      clear s1 s2
      go_wp2_with fail
      go_at_call 20
      refine (size_v zm Hm.out.bg (by omega) HZ.out.2.1).mono ?_
      rintro e w128 ⟨rfl, hk⟩
      replace Ha := Lib.hid (Ha.out.keep hk)
      replace Hb := Lib.hid (Hb.out.keep hk)
      replace Hc := Lib.hid (Hc.out.keep hk)
      replace Hu := Lib.hid (Hu.out.keep hk)
      replace Hm := Lib.hid (Hm.out.keep hk)
      replace Hd := Lib.hid (Hd.out.keep hk)
      replace hKc := hKc.trans hk
      clear hk
      go_wp2_with fail
      go_at_call 20
      refine (size_v zf Ha.out (by omega) HZ.out.2.2.2.2.1).mono ?_
      rintro e w129 ⟨rfl, hk⟩
      replace Ha := Lib.hid (Ha.out.keep hk)
      replace Hb := Lib.hid (Hb.out.keep hk)
      replace Hc := Lib.hid (Hc.out.keep hk)
      replace Hu := Lib.hid (Hu.out.keep hk)
      replace Hm := Lib.hid (Hm.out.keep hk)
      replace Hd := Lib.hid (Hd.out.keep hk)
      replace hKc := hKc.trans hk
      clear hk
      have s3 := HW.out.2.2.1
      go_wp2_with fail
      go_at_call 15
      refine (not_o Ha.out (by omega)).mono ?_
      rintro e w130 ⟨Ap, np, cp, rfl, hk, hp, hnp⟩
      replace Ha := Lib.hid (Ha.out.keep hk)
      replace Hb := Lib.hid (Hb.out.keep hk)
      replace Hc := Lib.hid (Hc.out.keep hk)
      replace Hu := Lib.hid (Hu.out.keep hk)
      replace Hm := Lib.hid (Hm.out.keep hk)
      replace Hd := Lib.hid (Hd.out.keep hk)
      replace hKc := hKc.trans hk
      clear hk
      have Hp := Lib.hid hp
      clear hp
      clear s3
      go_wp2_with fail
      go_at_call 20
      refine (size_v zn Hp.out.bg (by omega) HZ.out.2.2.2.1).mono ?_
      rintro e w131 ⟨rfl, hk⟩
      replace Ha := Lib.hid (Ha.out.keep hk)
      replace Hb := Lib.hid (Hb.out.keep hk)
      replace Hc := Lib.hid (Hc.out.keep hk)
      replace Hu := Lib.hid (Hu.out.keep hk)
      replace Hm := Lib.hid (Hm.out.keep hk)
      replace Hd := Lib.hid (Hd.out.keep hk)
      replace Hp := Lib.hid (Hp.out.keep hk)
      replace hKc := hKc.trans hk
      clear hk
      clear Hp
      go_wp2_with fail
      go_at_call 20
      refine (size_v zf Ha.out (by omega) HZ.out.2.2.2.2.1).mono ?_
      rintro e w132 ⟨rfl, hk⟩
      replace Ha := Lib.hid (Ha.out.keep hk)
      replace Hb := Lib.hid (Hb.out.keep hk)
      replace Hc := Lib.hid (Hc.out.keep hk)
      replace Hu := Lib.hid (Hu.out.keep hk)
      replace Hm := Lib.hid (Hm.out.keep hk)
      replace Hd := Lib.hid (Hd.out.keep hk)
      replace hKc := hKc.trans hk
      clear hk
      have s4 := HW.out.2.2.2
      go_wp2_with fail
      go_at_call 12
      refine (union_o Hb.out Hc.out (by omega) (by omega)).mono ?_
      rintro e w133 ⟨Ap, np, cp, rfl, hk, hp, hnp⟩
      replace Ha := Lib.hid (Ha.out.keep hk)
      replace Hb := Lib.hid (Hb.out.keep hk)
      replace Hc := Lib.hid (Hc.out.keep hk)
      replace Hu := Lib.hid (Hu.out.keep hk)
      replace Hm := Lib.hid (Hm.out.keep hk)
      replace Hd := Lib.hid (Hd.out.keep hk)
      replace hKc := hKc.trans hk
      clear hk
      have Hp := Lib.hid hp
      clear hp
      clear s4
      go_wp2_with fail
      go_at_call 13
      refine (meet_o Ha.out Hp.out.bg (by omega) (by omega)).mono ?_
      rintro e w134 ⟨Aq, nq, cq, rfl, hk, hq, hnq⟩
      replace Ha := Lib.hid (Ha.out.keep hk)
      replace Hb := Lib.hid (Hb.out.keep hk)
      replace Hc := Lib.hid (Hc.out.keep hk)
      replace Hu := Lib.hid (Hu.out.keep hk)
      replace Hm := Lib.hid (Hm.out.keep hk)
      replace Hd := Lib.hid (Hd.out.keep hk)
      replace Hp := Lib.hid (Hp.out.keep hk)
      replace hKc := hKc.trans hk
      clear hk
      have Hq := Lib.hid hq
      clear hq
      go_wp2_with fail
      go_at_call 13
      refine (meet_o Ha.out Hc.out (by omega) (by omega)).mono ?_
      rintro e w135 ⟨Ar, nr, cr, rfl, hk, hr, hnr⟩
      replace Ha := Lib.hid (Ha.out.keep hk)
      replace Hb := Lib.hid (Hb.out.keep hk)
      replace Hc := Lib.hid (Hc.out.keep hk)
      replace Hu := Lib.hid (Hu.out.keep hk)
      replace Hm := Lib.hid (Hm.out.keep hk)
      replace Hd := Lib.hid (Hd.out.keep hk)
      replace Hp := Lib.hid (Hp.out.keep hk)
      replace Hq := Lib.hid (Hq.out.keep hk)
      replace hKc := hKc.trans hk
      clear hk
      have Hr := Lib.hid hr
      clear hr
      go_wp2_with fail
      go_at_call 12
      refine (union_o Hm.out.bg Hr.out.bg (by omega) (by omega)).mono ?_
      rintro e w136 ⟨As, ns, cs, rfl, hk, hs, hns⟩
      replace Ha := Lib.hid (Ha.out.keep hk)
      replace Hb := Lib.hid (Hb.out.keep hk)
      replace Hc := Lib.hid (Hc.out.keep hk)
      replace Hu := Lib.hid (Hu.out.keep hk)
      replace Hm := Lib.hid (Hm.out.keep hk)
      replace Hd := Lib.hid (Hd.out.keep hk)
      replace Hp := Lib.hid (Hp.out.keep hk)
      replace Hq := Lib.hid (Hq.out.keep hk)
      replace Hr := Lib.hid (Hr.out.keep hk)
      replace hKc := hKc.trans hk
      clear hk
      have Hs := Lib.hid hs
      clear hs
      go_wp2_with fail
      go_at_call 22
      refine (same_o true Hq.out.bg Hs.out.bg (by omega) (by omega) ⟨fun _ k => (by cases f k <;> cases g k <;> cases h k <;> rfl), fun _ => rfl⟩).mono ?_
      rintro e w137 ⟨rfl, hk⟩
      replace Ha := Lib.hid (Ha.out.keep hk)
      replace Hb := Lib.hid (Hb.out.keep hk)
      replace Hc := Lib.hid (Hc.out.keep hk)
      replace Hu := Lib.hid (Hu.out.keep hk)
      replace Hm := Lib.hid (Hm.out.keep hk)
      replace Hd := Lib.hid (Hd.out.keep hk)
      replace Hp := Lib.hid (Hp.out.keep hk)
      replace Hq := Lib.hid (Hq.out.keep hk)
      replace Hr := Lib.hid (Hr.out.keep hk)
      replace Hs := Lib.hid (Hs.out.keep hk)
      replace hKc := hKc.trans hk
      clear hk
      clear Hp
      clear Hq
      clear Hr
      clear Hs
      go_wp2_with fail
      go_at_call 19
      refine (within_o true Hm.out.bg Ha.out (by omega) (by omega) ⟨fun _ k => (by cases f k <;> simp), fun _ => rfl⟩).mono ?_
      rintro e w138 ⟨rfl, hk⟩
      replace Ha := Lib.hid (Ha.out.keep hk)
      replace Hb := Lib.hid (Hb.out.keep hk)
      replace Hc := Lib.hid (Hc.out.keep hk)
      replace Hu := Lib.hid (Hu.out.keep hk)
      replace Hm := Lib.hid (Hm.out.keep hk)
      replace Hd := Lib.hid (Hd.out.keep hk)
      replace hKc := hKc.trans hk
      clear hk
      go_wp2_with fail
      go_at_call 19
      refine (within_o true Ha.out Hu.out.bg (by omega) (by omega) ⟨fun _ k => (by cases f k <;> simp), fun _ => rfl⟩).mono ?_
      rintro e w139 ⟨rfl, hk⟩
      replace Ha := Lib.hid (Ha.out.keep hk)
      replace Hb := Lib.hid (Hb.out.keep hk)
      replace Hc := Lib.hid (Hc.out.keep hk)
      replace Hu := Lib.hid (Hu.out.keep hk)
      replace Hm := Lib.hid (Hm.out.keep hk)
      replace Hd := Lib.hid (Hd.out.keep hk)
      replace hKc := hKc.trans hk
      clear hk
      go_wp2
      go_ret
      exact ⟨rfl, hKc⟩

set_option maxRecDepth 100000 in
set_option maxHeartbeats 1000000 in
theorem algebra_long (A : Option Addr) (n1 k1 : Nat) (B : Option Addr) (n2 k2 : Nat) (C : Option Addr) (n3 k3 : Nat) (key : Int) (w : World) (h : ¬ (n1 ≤ 40 ∧ n2 ≤ 40 ∧ n3 ≤ 40)) :
    Calls Try.prog 4 #[.slice A n1 k1, .slice B n2 k2, .slice C n3 k3, .int .u32 key] w fun e w' => e = .returned (.bool true) ∧ Keep w w' := by
  by_cases h1 : 40 < n1
  · have j1 : (40 : Int) < (n1 : Int) := by omega
    clear h
    go_enter Try.func4, Try.ntmps4
    go_wp2_with (go_at_call 8; refine (alive_any _).mono ?_; rintro e w1 ⟨rfl, hk1⟩)
    go_ret
    exact ⟨rfl, hk1⟩
  · have j1 : ¬ (40 : Int) < (n1 : Int) := by omega
    by_cases h2 : 40 < n2
    · have j2 : (40 : Int) < (n2 : Int) := by omega
      clear h
      go_enter Try.func4, Try.ntmps4
      go_wp2_with (go_at_call 8; refine (alive_any _).mono ?_; rintro e w1 ⟨rfl, hk1⟩)
      go_ret
      exact ⟨rfl, hk1⟩
    · have j2 : ¬ (40 : Int) < (n2 : Int) := by omega
      have j3 : (40 : Int) < (n3 : Int) := by omega
      clear h
      go_enter Try.func4, Try.ntmps4
      go_wp2_with (go_at_call 8; refine (alive_any _).mono ?_; rintro e w1 ⟨rfl, hk1⟩)
      go_ret
      exact ⟨rfl, hk1⟩
theorem IvlAlgebra_std (A : Option Addr) (n1 k1 : Nat) (xs : List Sp) (B : Option Addr) (n2 k2 : Nat) (ys : List Sp) (C : Option Addr) (n3 k3 : Nat) (zs : List Sp) (key : Int) (hk : (Lit.int .u32 key).wf = true) (w : World) (ra : SpArg w A n1 k1 xs) (rb : SpArg w B n2 k2 ys) (rc : SpArg w C n3 k3 zs) :
    Calls Try.prog 4 #[.slice A n1 k1, .slice B n2 k2, .slice C n3 k3, .int .u32 key] w fun e w' => e = .returned (.bool true) ∧ Below w.heap.size w w' := by
  by_cases h : n1 ≤ 40 ∧ n2 ≤ 40 ∧ n3 ≤ 40
  · have hb := bounds_u32 hk
    exact algebra_law A n1 k1 B n2 k2 C n3 k3 _ _ _ key w (Bg.of ra.2) (Bg.of rb.2) (Bg.of rc.2) h.1 h.2.1 h.2.2 (by simp [keyB]; omega)
  · exact algebra_long A n1 k1 B n2 k2 C n3 k3 key w h
end Go.Proofs.Ytglokhpgjfoneaa
