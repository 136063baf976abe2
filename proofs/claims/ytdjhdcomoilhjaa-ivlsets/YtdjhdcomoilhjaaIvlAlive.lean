/- The example of ivl's laws. -/
import Derived.Test.YtdjhdcomoilhjaaIvlTo
namespace Go.Proofs.Ytdjhdcomoilhjaa
open Go.RowKit

theorem equal_sp (p q : Int) (w : World) : (Op.equalIn 10000 36 (.agg #[.int .u32 p, .int .u32 q]) (.agg #[.int .u32 p, .int .u32 q])).run Try.prog w = .ok true w := by
  have h := run_equalIn_struct (P := Try.prog) w 9999 36 #[.int .u32 p, .int .u32 q] #[.int .u32 p, .int .u32 q] (by kernel_rfl) (by kernel_rfl)
  rw [h]
  obtain ⟨f0, f1, e, o0, o1, t0, t1, n0, n1⟩ := spFields
  have e2 : (Try.prog.fieldsOf 36).toList = [f0, f1] := by simp [Program.fieldsOf, e]
  rw [e2]
  simp [Op.eqFields, o0, o1, t0, t1, bne_iff_ne.1 n0, bne_iff_ne.1 n1, go_sem]
theorem arg_made (w : World) (cur : Array Value) (zs : List Sp) (n : Nat) (h : cur.toList = spc zs) (hn : zs.length = n) (hok : ∀ s ∈ zs, s.ok) : Arg (w.alloc (.cells cur 36)) (some ⟨w.heap.size, 0, none⟩) n n zs :=
  ⟨by have := Prs.made (f := fun s : Sp => Value.int .u32 s.lo) (g := fun s : Sp => Value.int .u32 s.hi) w cur 36 zs h; rwa [hn] at this, Nat.le_refl _, (fun h => by cases h), hok⟩

set_option maxRecDepth 100000 in
set_option maxHeartbeats 8000000 in
theorem alive_any (w : World) : Calls Try.prog 4 #[] w fun e w' => e = .returned (.bool true) ∧ Keep w w' := by
  have k0 := (Keep.refl w).alloc (.cells #[.int .u32 4, .int .u32 5, .int .u32 1, .int .u32 3, .int .u32 9, .int .u32 8] 36)
  have ar := arg_made w #[.int .u32 4, .int .u32 5, .int .u32 1, .int .u32 3, .int .u32 9, .int .u32 8] [⟨4, 5⟩, ⟨1, 3⟩, ⟨9, 8⟩] 3 rfl rfl (by simp [Sp.ok])
  have HC := Lib.hid (make_to _ 3 3 _ [⟨1, 5⟩] _ ar (by decide) a_set)
  have qe := equal_sp 1 5
  clear ar
  go_enter Try.func4, Try.ntmps4
  go_wp2_with fail
  go_at_call 7
  refine HC.out.mono ?_
  rintro e w1 ⟨v, rfl, hk1, Aa, ca, rfl, ha⟩
  obtain ⟨ba, oa, rfl, hba, x0, x1⟩ := SpS.cells ha.prs 0 ⟨1, 5⟩ rfl
  simp only [Nat.zero_mul, Nat.add_zero] at x0 x1
  have K1 := k0.trans hk1
  have HAa := Lib.hid ha
  clear HC k0 hk1 ha
  go_wp2_with fail
  go_at_call 11
  have kb := (Keep.refl w1).alloc (.cells #[.int .u32 3, .int .u32 7] 36)
  have ab := arg_made w1 #[.int .u32 3, .int .u32 7] [⟨3, 7⟩] 1 rfl rfl (by simp [Sp.ok])
  have HA2 := Lib.hid (HAa.out.keep kb)
  have K2 := K1.trans kb
  generalize w1.alloc (.cells #[.int .u32 3, .int .u32 7] 36) = W2 at *
  have HB2 := Lib.hid ab
  clear ab kb x0 x1 HAa K1
  refine (not_to _ 1 ca [⟨1, 5⟩] [⟨0, 0⟩, ⟨6, 4294967295⟩] W2 HA2.out (by decide) n_set).mono ?_
  rintro e W3 ⟨v, rfl, hk3, An, cn, rfl, hn⟩
  obtain ⟨bn, on, rfl, hbn, y0, y1⟩ := SpS.cells hn.prs 1 ⟨6, 4294967295⟩ rfl
  have HA := Lib.hid (HA2.out.keep hk3)
  have HB := Lib.hid (HB2.out.keep hk3)
  have K3 := K2.trans hk3
  clear HA2 HB2 K2 hk3 hn y0
  have hKc := Keep.refl W3
  go_wp2_with fail
  go_at_call 12
  refine (right_is _ 1 _ [⟨1, 5⟩] true _ (HA.out.keep hKc) (by decide) (by simp [Rt])).mono ?_
  rintro e w11 ⟨rfl, hk⟩
  replace hKc := hKc.trans hk
  clear hk
  go_wp2_with fail
  go_at_call 8
  refine (union_to _ 1 _ [⟨1, 5⟩] _ 1 _ [⟨3, 7⟩] [⟨1, 7⟩] _ (HA.out.keep hKc) (HB.out.keep hKc) (by decide) (by decide) u_set).mono ?_
  rintro e w12 ⟨v, rfl, hk, Au, cu, rfl, hu⟩
  replace hKc := hKc.trans hk
  clear hk
  have Hu := Lib.hid hu
  clear hu
  go_wp2_with fail
  go_at_call 9
  refine (meet_to _ 1 _ [⟨1, 5⟩] _ 1 _ [⟨3, 7⟩] [⟨3, 5⟩] _ (HA.out.keep hKc) (HB.out.keep hKc) (by decide) (by decide) m_set).mono ?_
  rintro e w13 ⟨v, rfl, hk, Am, cm, rfl, hm⟩
  replace hKc := hKc.trans hk
  clear hk
  have Hm := Lib.hid hm
  clear hm
  go_wp2_with fail
  go_at_call 16
  refine (size_to _ 1 _ [⟨3, 5⟩] [⟨3, 5⟩] 3 _ Hm.out (by decide) (isSet_self (by simp [Rt]) (by simp [Sp.ok])) (by simp [szL])).mono ?_
  rintro e w14 ⟨rfl, hk⟩
  replace hKc := hKc.trans hk
  clear hk
  go_wp2_with fail
  go_at_call 10
  refine (minus_to _ 1 _ [⟨1, 5⟩] _ 1 _ [⟨3, 7⟩] [⟨1, 2⟩] _ (HA.out.keep hKc) (HB.out.keep hKc) (by decide) (by decide) d_set).mono ?_
  rintro e w15 ⟨v, rfl, hk, Ad, cd, rfl, hd⟩
  replace hKc := hKc.trans hk
  clear hk
  have Hd := Lib.hid hd
  clear hd
  go_wp2_with fail
  go_at_call 16
  refine (size_to _ 1 _ [⟨1, 2⟩] [⟨1, 2⟩] 2 _ Hd.out (by decide) (isSet_self (by simp [Rt]) (by simp [Sp.ok])) (by simp [szL])).mono ?_
  rintro e w16 ⟨rfl, hk⟩
  replace hKc := hKc.trans hk
  clear hk
  have y3 : w16.cell? ⟨bn, on + 3, none⟩ = some (.int .u32 4294967295) := (hKc.cell (p := ⟨bn, on + 3, none⟩) hbn).trans y1
  have y2 : w16.cell? ⟨bn, on + 2 + 1, none⟩ = some (.int .u32 4294967295) := y3
  go_wp2_with fail
  go_at_call 13
  refine (has_is _ 1 _ [⟨1, 5⟩] 5 true _ (HA.out.keep hKc) (by decide) (by simp [hasB])).mono ?_
  rintro e w17 ⟨rfl, hk⟩
  replace hKc := hKc.trans hk
  clear hk
  clear y3 y2
  go_wp2_with fail
  go_at_call 13
  refine (has_is _ 1 _ [⟨1, 5⟩] 6 false _ (HA.out.keep hKc) (by decide) (by simp [hasB])).mono ?_
  rintro e w18 ⟨rfl, hk⟩
  replace hKc := hKc.trans hk
  clear hk
  go_wp2_with fail
  go_at_call 9
  refine (meet_to _ 1 _ [⟨1, 5⟩] _ 1 _ [⟨3, 7⟩] [⟨3, 5⟩] _ (HA.out.keep hKc) (HB.out.keep hKc) (by decide) (by decide) m_set).mono ?_
  rintro e w19 ⟨v, rfl, hk, Aq, cq, rfl, hq⟩
  replace hKc := hKc.trans hk
  clear hk
  have Hq := Lib.hid hq
  clear hq
  go_wp2_with fail
  go_at_call 15
  refine (within_any _ 1 _ [⟨3, 5⟩] _ 1 _ [⟨3, 7⟩] true _ Hq.out (HB.out.keep hKc) (by decide) (by decide) (by simp [mem, inS]; omega)).mono ?_
  rintro e w20 ⟨rfl, hk⟩
  replace hKc := hKc.trans hk
  clear hk
  go_wp2_with fail
  go_at_call 15
  refine (within_any _ 1 _ [⟨1, 5⟩] _ 1 _ [⟨3, 7⟩] false _ (HA.out.keep hKc) (HB.out.keep hKc) (by decide) (by decide) (by simp [mem, inS]; exact ⟨1, by decide, by decide, by decide⟩)).mono ?_
  rintro e w21 ⟨rfl, hk⟩
  replace hKc := hKc.trans hk
  clear hk
  go_wp2_with fail
  go_at_call 18
  refine (same_any _ 1 _ [⟨1, 5⟩] _ 1 _ [⟨1, 5⟩] true _ (HA.out.keep hKc) (HA.out.keep hKc) (by decide) (by decide) (by simp)).mono ?_
  rintro e w22 ⟨rfl, hk⟩
  replace hKc := hKc.trans hk
  clear hk
  go_wp2_with fail
  go_at_call 11
  refine (not_to none 0 0 [] [⟨0, 4294967295⟩] _ (arg_nil _) (by decide) all_set).mono ?_
  rintro e w23 ⟨v, rfl, hk, Az, cz, rfl, hz⟩
  replace hKc := hKc.trans hk
  clear hk
  have Hz := Lib.hid hz
  clear hz
  go_wp2_with fail
  go_at_call 16
  refine (size_to _ 1 _ [⟨0, 4294967295⟩] [⟨0, 4294967295⟩] 4294967296 _ Hz.out (by decide) (isSet_self (by simp [Rt]) (by simp [Sp.ok])) (by simp [szL])).mono ?_
  rintro e w24 ⟨rfl, hk⟩
  replace hKc := hKc.trans hk
  clear hk
  go_wp2
  go_ret
  exact ⟨rfl, K3.trans hKc⟩
end Go.Proofs.Ytdjhdcomoilhjaa
