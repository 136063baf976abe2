/- The walk of OctetSizes. -/
import Derived.Test.YtoilbmhijjkkaabOctLawD
import Derived.Test.YtoilbmhijjkkaabOctLess
namespace Go.Proofs.Ytoilbmhijjkkaab
open Go.RowKit

/-- A new writer's call turns its own block alone. -/
theorem of_new {b : Nat} {k : Nat} (h : OfWr b (.slice none 0 0) k) : k = b := by
  rcases h with h | h
  · exact h
  · cases h
theorem moved_new {w : World} {v : Value} (h : Moved w (.slice none 0 0) v) : ∀ g, v.ownBlock = some g → w.heap.size ≤ g := by
  intro g hg
  rcases h with e | ⟨g', e, hge⟩
  · rw [e] at hg; cases hg
  · have : g' = g := Option.some.inj (e.symm.trans hg)
    omega

theorem neg_put (k : Nat) (hk : k < 8) : sgnI (getB ((putB (-1) (k + 1)).take (k + 1))) (((k + 1 : Nat) : Int) * 8) = -1 := by
  have hp := twoP_pos (8 * k + 7)
  rw [List.take_of_length_le (by rw [putB_length]; omega), get_put, show ((k + 1 : Nat) : Int) * 8 = ((8 * k + 7 + 1 : Nat) : Int) from by omega, show 8 * (k + 1) = 8 * k + 7 + 1 from by omega, sgnI_low (-1) _ (by omega)]
  exact (sgn_eq (-1) _ (by omega)).2 ⟨by omega, by omega⟩

set_option maxRecDepth 100000 in
set_option maxHeartbeats 4000000 in
theorem sizes_core (a b m n : Int) (km kn : Nat) (w : World) (a0 : 0 ≤ a) (a1 : a < 18446744073709551616) (b0' : 0 ≤ b) (b1' : b < 18446744073709551616) (hkm : km < 8) (hkn : kn < 8) (em : bits BinOp.and IntKind.i64 m 7 = (km : Int)) (en : bits BinOp.and IntKind.i64 n 7 = (kn : Int)) :
    Calls Try.prog 6 #[.int .u64 a, .int .u64 b, .int .i64 m, .int .i64 n] w fun e w' => e = .returned (.bool true) ∧ Keep w w' := by
  rcases Nat.lt_trichotomy km kn with hlt | hlt | hlt
  · go_enter Try.func6, Try.ntmps6
    go_wp2_with (go_at_call 9; refine (alive_any _).mono ?_; rintro e w0 ⟨rfl, hk0⟩)
    have hx := ((wr_new w0).keep ((Keep.refl _).alloc (.cells #[.slice none 0 0] 27))).keep ((Keep.refl _).alloc (.cells #[.slice none 0 0] 27))
    have hy := (wr_new (w0.alloc (.cells #[.slice none 0 0] 27))).keep ((Keep.refl _).alloc (.cells #[.slice none 0 0] 27))
    have hz := wr_new ((w0.alloc (.cells #[.slice none 0 0] 27)).alloc (.cells #[.slice none 0 0] 27))
    have hk1 := ((hk0.alloc (.cells #[.slice none 0 0] 27)).alloc (.cells #[.slice none 0 0] 27)).alloc (.cells #[.slice none 0 0] 27)
    have q1 : (w0.alloc (.cells #[.slice none 0 0] 27)).heap.size = w0.heap.size + 1 := by simp
    have q2 : ((w0.alloc (.cells #[.slice none 0 0] 27)).alloc (.cells #[.slice none 0 0] 27)).heap.size = w0.heap.size + 2 := by simp
    have q3 : (((w0.alloc (.cells #[.slice none 0 0] 27)).alloc (.cells #[.slice none 0 0] 27)).alloc (.cells #[.slice none 0 0] 27)).heap.size = w0.heap.size + 3 := by simp
    rw [q1] at hy
    rw [q2] at hz
    have hb0 := hk0.size
    generalize ((w0.alloc (.cells #[.slice none 0 0] 27)).alloc (.cells #[.slice none 0 0] 27)).alloc (.cells #[.slice none 0 0] 27) = w1 at *
    generalize w0.heap.size = b0 at *
    clear q1 q2 hk0
    have f1 : (fsz (1 + (km : Int))).toNat = km + 1 := by unfold fsz; omega
    have f2 : (fsz (1 + (kn : Int))).toNat = kn + 1 := by unfold fsz; omega
    refine (put_any a (1 + (km : Int)) b0 _ [] w1 hx (by simp)).mono ?_
    rintro e w2 ⟨rfl, vx, hx2, ho2, hm2⟩
    have hgx := moved_new hm2
    have hk2 := wr_keep hk1 hx hb0 ho2
    have hy2 := hy.only ho2 (fun k hk h => by have := of_new h; have := of_new hk; omega)
    have hz2 := hz.only ho2 (fun k hk h => by have := of_new h; have := of_new hk; omega)
    have hs2 := ho2.size
    rw [f1, List.nil_append] at hx2
    clear hx hy hz hk1 ho2 hm2
    go_wp2_with fail
    refine (put_any a (1 + (kn : Int)) (b0 + 1) _ [] w2 hy2 (by simp)).mono ?_
    rintro e w3 ⟨rfl, vy, hy3, ho3, hm3⟩
    have hgy := moved_new hm3
    have hk3 := wr_keep hk2 hy2 (by omega) ho3
    have hx3 := hx2.only ho3 (fun k hk h => by have := of_new h; rcases hk with rfl | hk; omega; have := hgx _ hk; omega)
    have hz3 := hz2.only ho3 (fun k hk h => by have := of_new h; have := of_new hk; omega)
    have hs3 := ho3.size
    rw [f2, List.nil_append] at hy3
    clear hy2 hx2 hz2 hk2 ho3 hm3 f1 f2
    have HL1 := Lib.hid (putB_length a (km + 1))
    have HL2 := Lib.hid (putB_length a (kn + 1))
    go_wp2_with fail
    refine (done_any b0 vx _ w3 hx3 (by rw [HL1.out]; omega)).mono ?_
    rintro e w4 ⟨v4, rfl, hr4, hk34⟩
    rw [HL1.out] at hr4
    obtain ⟨A4, c4, rfl, hl4⟩ := Lies.of_row hr4
    have hk4 := hk3.trans hk34
    have hy4 := hy3.keep hk34
    have hz4 := hz3.keep hk34
    clear hx3 hy3 hz3 hk3 hk34 hr4
    go_wp2_with fail
    refine (done_any (b0 + 1) vy _ w4 hy4 (by rw [HL2.out]; omega)).mono ?_
    rintro e w5 ⟨v5, rfl, hr5, hk45⟩
    rw [HL2.out] at hr5
    obtain ⟨A5, c5, rfl, hl5⟩ := Lies.of_row hr5
    have hcap5 := row_cap hr5
    have hk5 := hk4.trans hk45
    have hz5 := hz4.keep hk45
    have hl45 := hl4.keep hk45 (Nat.le_refl _)
    obtain ⟨g5, off5, rfl, -, -⟩ := hl5.2 (by omega)
    have hpt := hl5.part (kn - km) (km + 1) (by omega)
    have hpd : ((putB a (kn + 1)).drop (kn - km)).take (km + 1) = putB a (km + 1) := by
      have := putB_drop a (kn + 1) (km + 1) (by omega)
      rw [show kn + 1 - (km + 1) = kn - km from by omega] at this
      rw [this]
      exact List.take_of_length_le (by rw [HL1.out]; omega)
    rw [vals_part, hpd] at hpt
    have hne : ¬ c5 = kn - km := by omega
    clear hy4 hz4 hk4 hk45 hl4 hr5 hpd hl5
    have e1 : 1 + kn - (1 + km) = kn - km := by omega
    have e2 : kn + 1 - (kn - km) = km + 1 := by omega
    have HPT := Lib.hid hpt
    have HL45 := Lib.hid hl45
    clear hpt hl45
    go_wp2_with fail
    first
      | (rw [e1, e2]; refine (same_yes _ _ _ _ _ _ (putB a (km + 1)) w5 _ _ HPT.out HL45.out).mono ?_)
      | (have hpt' := HPT.out; rw [Nat.sub_self, Nat.add_zero] at hpt'; refine (same_yes _ _ _ _ _ _ (putB a (km + 1)) w5 _ _ hpt' HL45.out).mono ?_)
    rintro e w' ⟨rfl, rfl⟩
    clear HPT HL45 e1 e2 hne hcap5
    go_wp2_with fail
    refine (put_any a 8 (b0 + 2) _ [] w5 hz5 (by simp)).mono ?_
    rintro e w6 ⟨rfl, vz, hz6, ho6, hm6⟩
    replace hz6 : Wr w6 (b0 + 2) vz (putB a 8) := hz6
    have hk6 := wr_keep hk5 hz5 (by omega) ho6
    have HLA := Lib.hid (putB_length a 8)
    have HLB := Lib.hid (putB_length b 8)
    clear hz5 hk5 ho6 hm6
    go_wp2_with fail
    refine (done_any (b0 + 2) vz _ w6 hz6 (by rw [HLA.out]; omega)).mono ?_
    rintro e w7 ⟨v7, rfl, hr7, hk67⟩
    rw [HLA.out] at hr7
    have hk7 := hk6.trans hk67
    have hz7 := hz6.keep hk67
    have hzl := hz6.2.lt
    have hzb := hz6.1.lt
    have hs7 := hk67.size
    clear hz6 hk6 hk67
    go_wp2_with fail
    have hw8 := wr_new w7
    have hk8 := hk7.alloc (.cells #[.slice none 0 0] 27)
    have hz8 := hz7.keep ((Keep.refl _).alloc (.cells #[.slice none 0 0] 27))
    have hr8 := row_keep hr7 ((Keep.refl _).alloc (.cells #[.slice none 0 0] 27))
    have hs8 : (w7.alloc (.cells #[.slice none 0 0] 27)).heap.size = w7.heap.size + 1 := by simp
    have hr7l := hr7.lt
    generalize w7.alloc (.cells #[.slice none 0 0] 27) = w8 at *
    clear hz7 hr7 
    refine (put_any b 8 w7.heap.size _ [] w8 hw8 (by simp)).mono ?_
    rintro e w9 ⟨rfl, vw, hw9, ho9, hm9⟩
    replace hw9 : Wr w9 w7.heap.size vw (putB b 8) := hw9
    have hk9 := wr_keep hk8 hw8 hk7.size ho9
    have hz9 := hz8.only ho9 (fun k hk h => by have := of_new h; rcases hk with rfl | hk; omega; have := hzl _ hk; omega)
    have hr9 := ownsRow_only hr8 ho9 (fun g hg h => by have := of_new h; have := hr7l _ hg; omega)
    have hs9 := ho9.size
    clear hw8 hz8 hr8 hk8 ho9 hm9
    obtain ⟨A7, c7, rfl, hl9⟩ := Lies.of_row hr9
    have cv9 := conv_any A7 8 c7 _ w9.drew _ (hl9.keep (Keep.refl w9).drew (Nat.le_refl _))
    have hless := less_u64 a b a0 a1 b0' b1'
    have HW9 := Lib.hid hw9
    go_wp2_with fail
    go_region_held (fun w' => (convert 25 9 (.slice A7 8 c7)).run Try.prog w' = .ok (.string (strOfNums (putB a 8))) w') (first | exact cv9 | exact cv10)
      (first | (go_at_call 17; refine (done_any w7.heap.size vw _ _ (HW9.out.keep (Keep.refl w9).drew) (by rw [HLB.out]; omega)).mono ?_; rintro e w10 ⟨v10, rfl, hr10, hk910⟩; rw [HLB.out] at hr10; obtain ⟨A10, c10, rfl, hl10⟩ := Lies.of_row hr10; have cv10 := conv_any A7 8 c7 _ w10 _ ((hl9.keep (Keep.refl w9).drew (Nat.le_refl _)).keep hk910 (Nat.le_refl _)); have cw10 := conv_any A10 8 c10 _ w10 _ hl10))
    have hk10 := (hk9.drew).trans hk910
    have hz10 := (hz9.keep (Keep.refl w9).drew).keep hk910
    have hr10' := row_keep (row_keep hr9 (Keep.refl w9).drew) hk910
    have hs10 : w9.heap.size ≤ w10.heap.size := hk910.size
    have hA7 := hr7l
    clear hl9 cv9 HW9 hw9 hz9 hr9 hk9 hr10 hl10 hk910
    rcases hr10'.2 with ⟨_, h8⟩ | ⟨g7, cc7, cur, ev, hg7, hhp, hc7, hm7, hcs, htk⟩
    · cases h8
    injection ev with ev1 ev2 ev3
    subst ev1 ev3
    have hc0 := hr10'.cells (g := g7) rfl 0 (.int .u8 ((putB a 8).getD 0 0)) (by rfl)
    have hfr : w10.frozen? ⟨g7, 0, none⟩ = false := by simp [World.frozen?, hhp]
    replace hc0 : w10.cell? ⟨g7, 0, none⟩ = some (.int .u8 ((putB a 8).getD 0 0)) := hc0
    clear hr10' hhp hcs htk hm7
    have hg7 := hA7 g7 rfl
    go_wp2_with fail
    generalize hvv : Value.int IntKind.u8 (bits BinOp.xor IntKind.u8 ((putB a 8)[0]?.getD 0) 1) = vv
    have ho11 : Only (fun k => k = g7) w10 (w10.setCell ⟨g7, 0, none⟩ vv) := (Only.refl _ _).setCell _ _ rfl
    have hz11 := hz10.only ho11 (fun k hk h => by rcases hk with rfl | hk; omega; have := hzl _ hk; omega)
    have hk11 := Only.keep hk10 ho11 (fun k h => by omega)
    have f3 : (fsz (1 + (kn : Int))).toNat = kn + 1 := by unfold fsz; omega
    have f4 : fsz (1 + (kn : Int)) = ((kn + 1 : Nat) : Int) := by unfold fsz; omega
    refine (wint_any (-1) (1 + (kn : Int)) (b0 + 2) vz _ _ hz11 (by rw [HLA.out]; omega)).mono ?_
    rintro e w12 ⟨rfl, v12, hz12, ho12, -⟩
    have hk12 := wr_keep hk11 hz11 (by omega) ho12
    rw [f3] at hz12
    have HLC : Hid ((putB a 8 ++ putB (-1) (kn + 1)).length = kn + 9) := Lib.hid (by rw [List.length_append, putB_length, putB_length]; omega)
    have HLD := Lib.hid (putB_length (-1) (kn + 1))
    clear ho11 hz11 hk11 ho12 hz10 hk10 hc0 hfr hvv
    go_wp2_with fail
    refine (done_any (b0 + 2) v12 _ w12 hz12 (by rw [HLC.out]; omega)).mono ?_
    rintro e w13 ⟨v13, rfl, hr13, hk1213⟩
    rw [HLC.out] at hr13
    obtain ⟨A13, c13, rfl, hl13⟩ := Lies.of_row hr13
    have hk13 := hk12.trans hk1213
    clear hr13 hk1213 hz12 hk12
    go_wp2_with fail
    refine (open_any A13 _ c13 _ w13 w13.heap.size (by omega) (Nat.le_refl _) hl13).mono ?_
    rintro e w14 ⟨b14, rfl, hb14, hr14, hk1314⟩
    have hk14 := hk13.trans hk1314
    have hbw14 : w.heap.size ≤ b14 := Nat.le_trans hk13.size hb14
    clear hl13 hk13 hk1314
    go_wp2_with fail
    refine (get_put_ok a 8 8 b14 _ w14 hr14 (by rw [HLD.out]; omega) (putB_byt _ _) rfl).mono ?_
    rintro e w15 ⟨rfl, hr15, ho15⟩
    have hk15 := rd_keep hk14 hbw14 ho15
    rw [show a % twoP (8 * 8) = a from Int.emod_eq_of_lt a0 a1]
    clear hr14 hk14 ho15
    go_wp2_with fail
    refine (rint_ok (1 + (kn : Int)) (kn + 1) b14 _ w15 hr15 (by rw [HLD.out]; omega) (putB_byt _ _) f4 (by rw [HLD.out]; omega)).mono ?_
    rintro e w16 ⟨rfl, hr16, ho16⟩
    have hk16 := rd_keep hk15 hbw14 ho16
    rw [neg_put kn hkn]
    have HDR : Hid (((putB (-1) (kn + 1)).drop (kn + 1)).length = 0) := Lib.hid (by rw [List.length_drop, HLD.out]; omega)
    clear hr15 hk15 ho16
    go_wp2_with (first
      | (go_at_call 27; refine (left_any b14 _ _ _ hr16).mono ?_; rintro e w' ⟨rfl, rfl⟩; rw [HDR.out])
      | (go_at_call 28; refine (bad_any b14 _ _ _ hr16).mono ?_; rintro e w' ⟨rfl, rfl⟩))
    go_ret
    exact ⟨rfl, hk16⟩
  · have hlt' := hlt.symm
    clear hlt
    subst hlt'
    go_enter Try.func6, Try.ntmps6
    go_wp2_with (go_at_call 9; refine (alive_any _).mono ?_; rintro e w0 ⟨rfl, hk0⟩)
    have hx := ((wr_new w0).keep ((Keep.refl _).alloc (.cells #[.slice none 0 0] 27))).keep ((Keep.refl _).alloc (.cells #[.slice none 0 0] 27))
    have hy := (wr_new (w0.alloc (.cells #[.slice none 0 0] 27))).keep ((Keep.refl _).alloc (.cells #[.slice none 0 0] 27))
    have hz := wr_new ((w0.alloc (.cells #[.slice none 0 0] 27)).alloc (.cells #[.slice none 0 0] 27))
    have hk1 := ((hk0.alloc (.cells #[.slice none 0 0] 27)).alloc (.cells #[.slice none 0 0] 27)).alloc (.cells #[.slice none 0 0] 27)
    have q1 : (w0.alloc (.cells #[.slice none 0 0] 27)).heap.size = w0.heap.size + 1 := by simp
    have q2 : ((w0.alloc (.cells #[.slice none 0 0] 27)).alloc (.cells #[.slice none 0 0] 27)).heap.size = w0.heap.size + 2 := by simp
    have q3 : (((w0.alloc (.cells #[.slice none 0 0] 27)).alloc (.cells #[.slice none 0 0] 27)).alloc (.cells #[.slice none 0 0] 27)).heap.size = w0.heap.size + 3 := by simp
    rw [q1] at hy
    rw [q2] at hz
    have hb0 := hk0.size
    generalize ((w0.alloc (.cells #[.slice none 0 0] 27)).alloc (.cells #[.slice none 0 0] 27)).alloc (.cells #[.slice none 0 0] 27) = w1 at *
    generalize w0.heap.size = b0 at *
    clear q1 q2 hk0
    have f1 : (fsz (1 + (kn : Int))).toNat = kn + 1 := by unfold fsz; omega
    have f2 : (fsz (1 + (kn : Int))).toNat = kn + 1 := by unfold fsz; omega
    refine (put_any a (1 + (kn : Int)) b0 _ [] w1 hx (by simp)).mono ?_
    rintro e w2 ⟨rfl, vx, hx2, ho2, hm2⟩
    have hgx := moved_new hm2
    have hk2 := wr_keep hk1 hx hb0 ho2
    have hy2 := hy.only ho2 (fun k hk h => by have := of_new h; have := of_new hk; omega)
    have hz2 := hz.only ho2 (fun k hk h => by have := of_new h; have := of_new hk; omega)
    have hs2 := ho2.size
    rw [f1, List.nil_append] at hx2
    clear hx hy hz hk1 ho2 hm2
    go_wp2_with fail
    refine (put_any a (1 + (kn : Int)) (b0 + 1) _ [] w2 hy2 (by simp)).mono ?_
    rintro e w3 ⟨rfl, vy, hy3, ho3, hm3⟩
    have hgy := moved_new hm3
    have hk3 := wr_keep hk2 hy2 (by omega) ho3
    have hx3 := hx2.only ho3 (fun k hk h => by have := of_new h; rcases hk with rfl | hk; omega; have := hgx _ hk; omega)
    have hz3 := hz2.only ho3 (fun k hk h => by have := of_new h; have := of_new hk; omega)
    have hs3 := ho3.size
    rw [f2, List.nil_append] at hy3
    clear hy2 hx2 hz2 hk2 ho3 hm3 f1 f2
    have HL1 := Lib.hid (putB_length a (kn + 1))
    have HL2 := Lib.hid (putB_length a (kn + 1))
    go_wp2_with fail
    refine (done_any b0 vx _ w3 hx3 (by rw [HL1.out]; omega)).mono ?_
    rintro e w4 ⟨v4, rfl, hr4, hk34⟩
    rw [HL1.out] at hr4
    obtain ⟨A4, c4, rfl, hl4⟩ := Lies.of_row hr4
    have hk4 := hk3.trans hk34
    have hy4 := hy3.keep hk34
    have hz4 := hz3.keep hk34
    clear hx3 hy3 hz3 hk3 hk34 hr4
    go_wp2_with fail
    refine (done_any (b0 + 1) vy _ w4 hy4 (by rw [HL2.out]; omega)).mono ?_
    rintro e w5 ⟨v5, rfl, hr5, hk45⟩
    rw [HL2.out] at hr5
    obtain ⟨A5, c5, rfl, hl5⟩ := Lies.of_row hr5
    have hcap5 := row_cap hr5
    have hk5 := hk4.trans hk45
    have hz5 := hz4.keep hk45
    have hl45 := hl4.keep hk45 (Nat.le_refl _)
    obtain ⟨g5, off5, rfl, -, -⟩ := hl5.2 (by omega)
    have hpt := hl5.part (kn - kn) (kn + 1) (by omega)
    have hpd : ((putB a (kn + 1)).drop (kn - kn)).take (kn + 1) = putB a (kn + 1) := by
      have := putB_drop a (kn + 1) (kn + 1) (by omega)
      rw [show kn + 1 - (kn + 1) = kn - kn from by omega] at this
      rw [this]
      exact List.take_of_length_le (by rw [HL1.out]; omega)
    rw [vals_part, hpd] at hpt
    have hne : ¬ c5 = kn - kn := by omega
    clear hy4 hz4 hk4 hk45 hl4 hr5 hpd hl5
    have e1 : 1 + kn - (1 + kn) = kn - kn := by omega
    have e2 : kn + 1 - (kn - kn) = kn + 1 := by omega
    have HPT := Lib.hid hpt
    have HL45 := Lib.hid hl45
    clear hpt hl45
    go_wp2_with fail
    first
      | (rw [e1, e2]; refine (same_yes _ _ _ _ _ _ (putB a (kn + 1)) w5 _ _ HPT.out HL45.out).mono ?_)
      | (have hpt' := HPT.out; rw [Nat.sub_self, Nat.add_zero] at hpt'; refine (same_yes _ _ _ _ _ _ (putB a (kn + 1)) w5 _ _ hpt' HL45.out).mono ?_)
    rintro e w' ⟨rfl, rfl⟩
    clear HPT HL45 e1 e2 hne hcap5
    go_wp2_with fail
    refine (put_any a 8 (b0 + 2) _ [] w5 hz5 (by simp)).mono ?_
    rintro e w6 ⟨rfl, vz, hz6, ho6, hm6⟩
    replace hz6 : Wr w6 (b0 + 2) vz (putB a 8) := hz6
    have hk6 := wr_keep hk5 hz5 (by omega) ho6
    have HLA := Lib.hid (putB_length a 8)
    have HLB := Lib.hid (putB_length b 8)
    clear hz5 hk5 ho6 hm6
    go_wp2_with fail
    refine (done_any (b0 + 2) vz _ w6 hz6 (by rw [HLA.out]; omega)).mono ?_
    rintro e w7 ⟨v7, rfl, hr7, hk67⟩
    rw [HLA.out] at hr7
    have hk7 := hk6.trans hk67
    have hz7 := hz6.keep hk67
    have hzl := hz6.2.lt
    have hzb := hz6.1.lt
    have hs7 := hk67.size
    clear hz6 hk6 hk67
    go_wp2_with fail
    have hw8 := wr_new w7
    have hk8 := hk7.alloc (.cells #[.slice none 0 0] 27)
    have hz8 := hz7.keep ((Keep.refl _).alloc (.cells #[.slice none 0 0] 27))
    have hr8 := row_keep hr7 ((Keep.refl _).alloc (.cells #[.slice none 0 0] 27))
    have hs8 : (w7.alloc (.cells #[.slice none 0 0] 27)).heap.size = w7.heap.size + 1 := by simp
    have hr7l := hr7.lt
    generalize w7.alloc (.cells #[.slice none 0 0] 27) = w8 at *
    clear hz7 hr7 
    refine (put_any b 8 w7.heap.size _ [] w8 hw8 (by simp)).mono ?_
    rintro e w9 ⟨rfl, vw, hw9, ho9, hm9⟩
    replace hw9 : Wr w9 w7.heap.size vw (putB b 8) := hw9
    have hk9 := wr_keep hk8 hw8 hk7.size ho9
    have hz9 := hz8.only ho9 (fun k hk h => by have := of_new h; rcases hk with rfl | hk; omega; have := hzl _ hk; omega)
    have hr9 := ownsRow_only hr8 ho9 (fun g hg h => by have := of_new h; have := hr7l _ hg; omega)
    have hs9 := ho9.size
    clear hw8 hz8 hr8 hk8 ho9 hm9
    obtain ⟨A7, c7, rfl, hl9⟩ := Lies.of_row hr9
    have cv9 := conv_any A7 8 c7 _ w9.drew _ (hl9.keep (Keep.refl w9).drew (Nat.le_refl _))
    have hless := less_u64 a b a0 a1 b0' b1'
    have HW9 := Lib.hid hw9
    go_wp2_with fail
    go_region_held (fun w' => (convert 25 9 (.slice A7 8 c7)).run Try.prog w' = .ok (.string (strOfNums (putB a 8))) w') (first | exact cv9 | exact cv10)
      (first | (go_at_call 17; refine (done_any w7.heap.size vw _ _ (HW9.out.keep (Keep.refl w9).drew) (by rw [HLB.out]; omega)).mono ?_; rintro e w10 ⟨v10, rfl, hr10, hk910⟩; rw [HLB.out] at hr10; obtain ⟨A10, c10, rfl, hl10⟩ := Lies.of_row hr10; have cv10 := conv_any A7 8 c7 _ w10 _ ((hl9.keep (Keep.refl w9).drew (Nat.le_refl _)).keep hk910 (Nat.le_refl _)); have cw10 := conv_any A10 8 c10 _ w10 _ hl10))
    have hk10 := (hk9.drew).trans hk910
    have hz10 := (hz9.keep (Keep.refl w9).drew).keep hk910
    have hr10' := row_keep (row_keep hr9 (Keep.refl w9).drew) hk910
    have hs10 : w9.heap.size ≤ w10.heap.size := hk910.size
    have hA7 := hr7l
    clear hl9 cv9 HW9 hw9 hz9 hr9 hk9 hr10 hl10 hk910
    rcases hr10'.2 with ⟨_, h8⟩ | ⟨g7, cc7, cur, ev, hg7, hhp, hc7, hm7, hcs, htk⟩
    · cases h8
    injection ev with ev1 ev2 ev3
    subst ev1 ev3
    have hc0 := hr10'.cells (g := g7) rfl 0 (.int .u8 ((putB a 8).getD 0 0)) (by rfl)
    have hfr : w10.frozen? ⟨g7, 0, none⟩ = false := by simp [World.frozen?, hhp]
    replace hc0 : w10.cell? ⟨g7, 0, none⟩ = some (.int .u8 ((putB a 8).getD 0 0)) := hc0
    clear hr10' hhp hcs htk hm7
    have hg7 := hA7 g7 rfl
    go_wp2_with fail
    generalize hvv : Value.int IntKind.u8 (bits BinOp.xor IntKind.u8 ((putB a 8)[0]?.getD 0) 1) = vv
    have ho11 : Only (fun k => k = g7) w10 (w10.setCell ⟨g7, 0, none⟩ vv) := (Only.refl _ _).setCell _ _ rfl
    have hz11 := hz10.only ho11 (fun k hk h => by rcases hk with rfl | hk; omega; have := hzl _ hk; omega)
    have hk11 := Only.keep hk10 ho11 (fun k h => by omega)
    have f3 : (fsz (1 + (kn : Int))).toNat = kn + 1 := by unfold fsz; omega
    have f4 : fsz (1 + (kn : Int)) = ((kn + 1 : Nat) : Int) := by unfold fsz; omega
    refine (wint_any (-1) (1 + (kn : Int)) (b0 + 2) vz _ _ hz11 (by rw [HLA.out]; omega)).mono ?_
    rintro e w12 ⟨rfl, v12, hz12, ho12, -⟩
    have hk12 := wr_keep hk11 hz11 (by omega) ho12
    rw [f3] at hz12
    have HLC : Hid ((putB a 8 ++ putB (-1) (kn + 1)).length = kn + 9) := Lib.hid (by rw [List.length_append, putB_length, putB_length]; omega)
    have HLD := Lib.hid (putB_length (-1) (kn + 1))
    clear ho11 hz11 hk11 ho12 hz10 hk10 hc0 hfr hvv
    go_wp2_with fail
    refine (done_any (b0 + 2) v12 _ w12 hz12 (by rw [HLC.out]; omega)).mono ?_
    rintro e w13 ⟨v13, rfl, hr13, hk1213⟩
    rw [HLC.out] at hr13
    obtain ⟨A13, c13, rfl, hl13⟩ := Lies.of_row hr13
    have hk13 := hk12.trans hk1213
    clear hr13 hk1213 hz12 hk12
    go_wp2_with fail
    refine (open_any A13 _ c13 _ w13 w13.heap.size (by omega) (Nat.le_refl _) hl13).mono ?_
    rintro e w14 ⟨b14, rfl, hb14, hr14, hk1314⟩
    have hk14 := hk13.trans hk1314
    have hbw14 : w.heap.size ≤ b14 := Nat.le_trans hk13.size hb14
    clear hl13 hk13 hk1314
    go_wp2_with fail
    refine (get_put_ok a 8 8 b14 _ w14 hr14 (by rw [HLD.out]; omega) (putB_byt _ _) rfl).mono ?_
    rintro e w15 ⟨rfl, hr15, ho15⟩
    have hk15 := rd_keep hk14 hbw14 ho15
    rw [show a % twoP (8 * 8) = a from Int.emod_eq_of_lt a0 a1]
    clear hr14 hk14 ho15
    go_wp2_with fail
    refine (rint_ok (1 + (kn : Int)) (kn + 1) b14 _ w15 hr15 (by rw [HLD.out]; omega) (putB_byt _ _) f4 (by rw [HLD.out]; omega)).mono ?_
    rintro e w16 ⟨rfl, hr16, ho16⟩
    have hk16 := rd_keep hk15 hbw14 ho16
    rw [neg_put kn hkn]
    have HDR : Hid (((putB (-1) (kn + 1)).drop (kn + 1)).length = 0) := Lib.hid (by rw [List.length_drop, HLD.out]; omega)
    clear hr15 hk15 ho16
    go_wp2_with (first
      | (go_at_call 27; refine (left_any b14 _ _ _ hr16).mono ?_; rintro e w' ⟨rfl, rfl⟩; rw [HDR.out])
      | (go_at_call 28; refine (bad_any b14 _ _ _ hr16).mono ?_; rintro e w' ⟨rfl, rfl⟩))
    go_ret
    exact ⟨rfl, hk16⟩
  · go_enter Try.func6, Try.ntmps6
    go_wp2_with (go_at_call 9; refine (alive_any _).mono ?_; rintro e w0 ⟨rfl, hk0⟩)
    have hx := ((wr_new w0).keep ((Keep.refl _).alloc (.cells #[.slice none 0 0] 27))).keep ((Keep.refl _).alloc (.cells #[.slice none 0 0] 27))
    have hy := (wr_new (w0.alloc (.cells #[.slice none 0 0] 27))).keep ((Keep.refl _).alloc (.cells #[.slice none 0 0] 27))
    have hz := wr_new ((w0.alloc (.cells #[.slice none 0 0] 27)).alloc (.cells #[.slice none 0 0] 27))
    have hk1 := ((hk0.alloc (.cells #[.slice none 0 0] 27)).alloc (.cells #[.slice none 0 0] 27)).alloc (.cells #[.slice none 0 0] 27)
    have q1 : (w0.alloc (.cells #[.slice none 0 0] 27)).heap.size = w0.heap.size + 1 := by simp
    have q2 : ((w0.alloc (.cells #[.slice none 0 0] 27)).alloc (.cells #[.slice none 0 0] 27)).heap.size = w0.heap.size + 2 := by simp
    have q3 : (((w0.alloc (.cells #[.slice none 0 0] 27)).alloc (.cells #[.slice none 0 0] 27)).alloc (.cells #[.slice none 0 0] 27)).heap.size = w0.heap.size + 3 := by simp
    rw [q1] at hy
    rw [q2] at hz
    have hb0 := hk0.size
    generalize ((w0.alloc (.cells #[.slice none 0 0] 27)).alloc (.cells #[.slice none 0 0] 27)).alloc (.cells #[.slice none 0 0] 27) = w1 at *
    generalize w0.heap.size = b0 at *
    clear q1 q2 hk0
    have f1 : (fsz (1 + (kn : Int))).toNat = kn + 1 := by unfold fsz; omega
    have f2 : (fsz (1 + (km : Int))).toNat = km + 1 := by unfold fsz; omega
    refine (put_any a (1 + (kn : Int)) b0 _ [] w1 hx (by simp)).mono ?_
    rintro e w2 ⟨rfl, vx, hx2, ho2, hm2⟩
    have hgx := moved_new hm2
    have hk2 := wr_keep hk1 hx hb0 ho2
    have hy2 := hy.only ho2 (fun k hk h => by have := of_new h; have := of_new hk; omega)
    have hz2 := hz.only ho2 (fun k hk h => by have := of_new h; have := of_new hk; omega)
    have hs2 := ho2.size
    rw [f1, List.nil_append] at hx2
    clear hx hy hz hk1 ho2 hm2
    go_wp2_with fail
    refine (put_any a (1 + (km : Int)) (b0 + 1) _ [] w2 hy2 (by simp)).mono ?_
    rintro e w3 ⟨rfl, vy, hy3, ho3, hm3⟩
    have hgy := moved_new hm3
    have hk3 := wr_keep hk2 hy2 (by omega) ho3
    have hx3 := hx2.only ho3 (fun k hk h => by have := of_new h; rcases hk with rfl | hk; omega; have := hgx _ hk; omega)
    have hz3 := hz2.only ho3 (fun k hk h => by have := of_new h; have := of_new hk; omega)
    have hs3 := ho3.size
    rw [f2, List.nil_append] at hy3
    clear hy2 hx2 hz2 hk2 ho3 hm3 f1 f2
    have HL1 := Lib.hid (putB_length a (kn + 1))
    have HL2 := Lib.hid (putB_length a (km + 1))
    go_wp2_with fail
    refine (done_any b0 vx _ w3 hx3 (by rw [HL1.out]; omega)).mono ?_
    rintro e w4 ⟨v4, rfl, hr4, hk34⟩
    rw [HL1.out] at hr4
    obtain ⟨A4, c4, rfl, hl4⟩ := Lies.of_row hr4
    have hk4 := hk3.trans hk34
    have hy4 := hy3.keep hk34
    have hz4 := hz3.keep hk34
    clear hx3 hy3 hz3 hk3 hk34 hr4
    go_wp2_with fail
    refine (done_any (b0 + 1) vy _ w4 hy4 (by rw [HL2.out]; omega)).mono ?_
    rintro e w5 ⟨v5, rfl, hr5, hk45⟩
    rw [HL2.out] at hr5
    obtain ⟨A5, c5, rfl, hl5⟩ := Lies.of_row hr5
    have hcap5 := row_cap hr5
    have hk5 := hk4.trans hk45
    have hz5 := hz4.keep hk45
    have hl45 := hl4.keep hk45 (Nat.le_refl _)
    obtain ⟨g5, off5, rfl, -, -⟩ := hl5.2 (by omega)
    have hpt := hl5.part (km - kn) (kn + 1) (by omega)
    have hpd : ((putB a (km + 1)).drop (km - kn)).take (kn + 1) = putB a (kn + 1) := by
      have := putB_drop a (km + 1) (kn + 1) (by omega)
      rw [show km + 1 - (kn + 1) = km - kn from by omega] at this
      rw [this]
      exact List.take_of_length_le (by rw [HL1.out]; omega)
    rw [vals_part, hpd] at hpt
    have hne : ¬ c5 = km - kn := by omega
    clear hy4 hz4 hk4 hk45 hl4 hr5 hpd hl5
    have e1 : 1 + km - (1 + kn) = km - kn := by omega
    have e2 : km + 1 - (km - kn) = kn + 1 := by omega
    have HPT := Lib.hid hpt
    have HL45 := Lib.hid hl45
    clear hpt hl45
    go_wp2_with fail
    first
      | (rw [e1, e2]; refine (same_yes _ _ _ _ _ _ (putB a (kn + 1)) w5 _ _ HPT.out HL45.out).mono ?_)
      | (have hpt' := HPT.out; rw [Nat.sub_self, Nat.add_zero] at hpt'; refine (same_yes _ _ _ _ _ _ (putB a (kn + 1)) w5 _ _ hpt' HL45.out).mono ?_)
    rintro e w' ⟨rfl, rfl⟩
    clear HPT HL45 e1 e2 hne hcap5
    go_wp2_with fail
    refine (put_any a 8 (b0 + 2) _ [] w5 hz5 (by simp)).mono ?_
    rintro e w6 ⟨rfl, vz, hz6, ho6, hm6⟩
    replace hz6 : Wr w6 (b0 + 2) vz (putB a 8) := hz6
    have hk6 := wr_keep hk5 hz5 (by omega) ho6
    have HLA := Lib.hid (putB_length a 8)
    have HLB := Lib.hid (putB_length b 8)
    clear hz5 hk5 ho6 hm6
    go_wp2_with fail
    refine (done_any (b0 + 2) vz _ w6 hz6 (by rw [HLA.out]; omega)).mono ?_
    rintro e w7 ⟨v7, rfl, hr7, hk67⟩
    rw [HLA.out] at hr7
    have hk7 := hk6.trans hk67
    have hz7 := hz6.keep hk67
    have hzl := hz6.2.lt
    have hzb := hz6.1.lt
    have hs7 := hk67.size
    clear hz6 hk6 hk67
    go_wp2_with fail
    have hw8 := wr_new w7
    have hk8 := hk7.alloc (.cells #[.slice none 0 0] 27)
    have hz8 := hz7.keep ((Keep.refl _).alloc (.cells #[.slice none 0 0] 27))
    have hr8 := row_keep hr7 ((Keep.refl _).alloc (.cells #[.slice none 0 0] 27))
    have hs8 : (w7.alloc (.cells #[.slice none 0 0] 27)).heap.size = w7.heap.size + 1 := by simp
    have hr7l := hr7.lt
    generalize w7.alloc (.cells #[.slice none 0 0] 27) = w8 at *
    clear hz7 hr7 
    refine (put_any b 8 w7.heap.size _ [] w8 hw8 (by simp)).mono ?_
    rintro e w9 ⟨rfl, vw, hw9, ho9, hm9⟩
    replace hw9 : Wr w9 w7.heap.size vw (putB b 8) := hw9
    have hk9 := wr_keep hk8 hw8 hk7.size ho9
    have hz9 := hz8.only ho9 (fun k hk h => by have := of_new h; rcases hk with rfl | hk; omega; have := hzl _ hk; omega)
    have hr9 := ownsRow_only hr8 ho9 (fun g hg h => by have := of_new h; have := hr7l _ hg; omega)
    have hs9 := ho9.size
    clear hw8 hz8 hr8 hk8 ho9 hm9
    obtain ⟨A7, c7, rfl, hl9⟩ := Lies.of_row hr9
    have cv9 := conv_any A7 8 c7 _ w9.drew _ (hl9.keep (Keep.refl w9).drew (Nat.le_refl _))
    have hless := less_u64 a b a0 a1 b0' b1'
    have HW9 := Lib.hid hw9
    go_wp2_with fail
    go_region_held (fun w' => (convert 25 9 (.slice A7 8 c7)).run Try.prog w' = .ok (.string (strOfNums (putB a 8))) w') (first | exact cv9 | exact cv10)
      (first | (go_at_call 17; refine (done_any w7.heap.size vw _ _ (HW9.out.keep (Keep.refl w9).drew) (by rw [HLB.out]; omega)).mono ?_; rintro e w10 ⟨v10, rfl, hr10, hk910⟩; rw [HLB.out] at hr10; obtain ⟨A10, c10, rfl, hl10⟩ := Lies.of_row hr10; have cv10 := conv_any A7 8 c7 _ w10 _ ((hl9.keep (Keep.refl w9).drew (Nat.le_refl _)).keep hk910 (Nat.le_refl _)); have cw10 := conv_any A10 8 c10 _ w10 _ hl10))
    have hk10 := (hk9.drew).trans hk910
    have hz10 := (hz9.keep (Keep.refl w9).drew).keep hk910
    have hr10' := row_keep (row_keep hr9 (Keep.refl w9).drew) hk910
    have hs10 : w9.heap.size ≤ w10.heap.size := hk910.size
    have hA7 := hr7l
    clear hl9 cv9 HW9 hw9 hz9 hr9 hk9 hr10 hl10 hk910
    rcases hr10'.2 with ⟨_, h8⟩ | ⟨g7, cc7, cur, ev, hg7, hhp, hc7, hm7, hcs, htk⟩
    · cases h8
    injection ev with ev1 ev2 ev3
    subst ev1 ev3
    have hc0 := hr10'.cells (g := g7) rfl 0 (.int .u8 ((putB a 8).getD 0 0)) (by rfl)
    have hfr : w10.frozen? ⟨g7, 0, none⟩ = false := by simp [World.frozen?, hhp]
    replace hc0 : w10.cell? ⟨g7, 0, none⟩ = some (.int .u8 ((putB a 8).getD 0 0)) := hc0
    clear hr10' hhp hcs htk hm7
    have hg7 := hA7 g7 rfl
    go_wp2_with fail
    generalize hvv : Value.int IntKind.u8 (bits BinOp.xor IntKind.u8 ((putB a 8)[0]?.getD 0) 1) = vv
    have ho11 : Only (fun k => k = g7) w10 (w10.setCell ⟨g7, 0, none⟩ vv) := (Only.refl _ _).setCell _ _ rfl
    have hz11 := hz10.only ho11 (fun k hk h => by rcases hk with rfl | hk; omega; have := hzl _ hk; omega)
    have hk11 := Only.keep hk10 ho11 (fun k h => by omega)
    have f3 : (fsz (1 + (kn : Int))).toNat = kn + 1 := by unfold fsz; omega
    have f4 : fsz (1 + (kn : Int)) = ((kn + 1 : Nat) : Int) := by unfold fsz; omega
    refine (wint_any (-1) (1 + (kn : Int)) (b0 + 2) vz _ _ hz11 (by rw [HLA.out]; omega)).mono ?_
    rintro e w12 ⟨rfl, v12, hz12, ho12, -⟩
    have hk12 := wr_keep hk11 hz11 (by omega) ho12
    rw [f3] at hz12
    have HLC : Hid ((putB a 8 ++ putB (-1) (kn + 1)).length = kn + 9) := Lib.hid (by rw [List.length_append, putB_length, putB_length]; omega)
    have HLD := Lib.hid (putB_length (-1) (kn + 1))
    clear ho11 hz11 hk11 ho12 hz10 hk10 hc0 hfr hvv
    go_wp2_with fail
    refine (done_any (b0 + 2) v12 _ w12 hz12 (by rw [HLC.out]; omega)).mono ?_
    rintro e w13 ⟨v13, rfl, hr13, hk1213⟩
    rw [HLC.out] at hr13
    obtain ⟨A13, c13, rfl, hl13⟩ := Lies.of_row hr13
    have hk13 := hk12.trans hk1213
    clear hr13 hk1213 hz12 hk12
    go_wp2_with fail
    refine (open_any A13 _ c13 _ w13 w13.heap.size (by omega) (Nat.le_refl _) hl13).mono ?_
    rintro e w14 ⟨b14, rfl, hb14, hr14, hk1314⟩
    have hk14 := hk13.trans hk1314
    have hbw14 : w.heap.size ≤ b14 := Nat.le_trans hk13.size hb14
    clear hl13 hk13 hk1314
    go_wp2_with fail
    refine (get_put_ok a 8 8 b14 _ w14 hr14 (by rw [HLD.out]; omega) (putB_byt _ _) rfl).mono ?_
    rintro e w15 ⟨rfl, hr15, ho15⟩
    have hk15 := rd_keep hk14 hbw14 ho15
    rw [show a % twoP (8 * 8) = a from Int.emod_eq_of_lt a0 a1]
    clear hr14 hk14 ho15
    go_wp2_with fail
    refine (rint_ok (1 + (kn : Int)) (kn + 1) b14 _ w15 hr15 (by rw [HLD.out]; omega) (putB_byt _ _) f4 (by rw [HLD.out]; omega)).mono ?_
    rintro e w16 ⟨rfl, hr16, ho16⟩
    have hk16 := rd_keep hk15 hbw14 ho16
    rw [neg_put kn hkn]
    have HDR : Hid (((putB (-1) (kn + 1)).drop (kn + 1)).length = 0) := Lib.hid (by rw [List.length_drop, HLD.out]; omega)
    clear hr15 hk15 ho16
    go_wp2_with (first
      | (go_at_call 27; refine (left_any b14 _ _ _ hr16).mono ?_; rintro e w' ⟨rfl, rfl⟩; rw [HDR.out])
      | (go_at_call 28; refine (bad_any b14 _ _ _ hr16).mono ?_; rintro e w' ⟨rfl, rfl⟩))
    go_ret
    exact ⟨rfl, hk16⟩

theorem OctetSizes_std (a0 : Int) (w0 : (Lit.int .u64 a0).wf = true) (a1 : Int) (w1 : (Lit.int .u64 a1).wf = true) (a2 : Int) (_w2 : (Lit.int .i64 a2).wf = true) (a3 : Int) (_w3 : (Lit.int .i64 a3).wf = true) (w : World) :
    Calls Try.prog 6 #[.int .u64 a0, .int .u64 a1, .int .i64 a2, .int .i64 a3] w fun e w' => e = .returned (.bool true) ∧ Below w.heap.size w w' := by
  have h0 := bounds_u64 w0
  have h1 := bounds_u64 w1
  exact sizes_core a0 a1 a2 a3 (a2 % 8).toNat (a3 % 8).toNat w (by omega) (by omega) (by omega) (by omega) (by omega) (by omega) (by rw [and_7]; omega) (by rw [and_7]; omega)
end Go.Proofs.Ytoilbmhijjkkaab
