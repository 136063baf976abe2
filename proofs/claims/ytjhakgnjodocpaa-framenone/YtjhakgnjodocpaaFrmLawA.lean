/- The walk of FrameNone. -/
import Derived.Test.YtjhakgnjodocpaaFrmAlive
import Derived.OpenShut
namespace Go.Proofs.Ytjhakgnjodocpaa
open Go.RowKit
attribute [local go_sem] Oper.semAt_some

set_option maxHeartbeats 1000000 in
/-- Of none that are asked for none come. -/
theorem lall_zero (A : Option Addr) (n c : Nat) (w : World) : Calls Try.prog 16 #[.slice A n c, .int .i64 0] w (Alls w 0) := by
  refine (callsIn_wide (n := 3)).1 ?_
  refine callsIn_of_wp Try.func16 rfl trivial ?_ rfl
  simp only [Try.ntmps16, List.size_toArray, List.length_cons, List.length_nil, Nat.reduceAdd, Nat.reduceSub, Array.replicate_succ, Array.replicate_zero, List.push_toArray, List.append_toArray, List.nil_append, List.cons_append]
  gi_wp2
  have oR := ((World.ownsRow_made (base := w.heap.size) (e := 22) (size := 1) ((w.alloc (.cells #[.int .i64 0] 3)).alloc (.cells #[.slice (some ⟨w.heap.size + 1 + 1, 0, none⟩) 0 0] 29)) #[] 0 (by simp; omega) (by simp) rfl).alloc (.cells #[.slice (some ⟨w.heap.size + 1 + 1, 0, none⟩) 0 0] 29))
  simp only [World.size_alloc] at oR
  exact bodyPost_ret (v := .slice (some ⟨w.heap.size + 1 + 1, 0, none⟩) 0 0) (by simp [results, Try.f16, go_sem]) rfl ⟨_, [], rfl, rfl, oR, ((((Keep.refl w).alloc _).alloc _).alloc _).alloc _⟩
theorem alls_any (A : Option Addr) (n c : Nat) (m : Nat) (xs : List Int) (w : World) (B : Nat) (hB : B ≤ w.heap.size) (hy : By w B A n c xs) (hby : Byt xs) (hn : n ≤ 100000) (hm2 : m ≤ 9223372036854775807) :
    Calls Try.prog 16 #[.slice A n c, .int .i64 m] w (Alls w (min m (spl xs).1.length)) := by
  rcases Nat.eq_zero_or_pos m with rfl | h
  · rw [Nat.zero_min]
    exact lall_zero A n c w
  · exact lall_any A n c m xs w B hB hy hby hn h hm2

/-- Noughts. -/
def zer (n : Nat) : List Int := List.replicate n 0
theorem zer_byt (n : Nat) : Byt (zer n) := fun x hx => by
  have := List.eq_of_mem_replicate hx
  omega
theorem zer_hd (n : Nat) : hd (zer (n + 2)) = 0 := by
  unfold hd zer
  simp [List.replicate_succ, getB]
theorem zer_cut (n : Nat) : cutE (zer (n + 2)) = 0 := by
  unfold cutE
  rw [zer_hd, if_neg (by simp [zer]), if_neg (by omega), if_neg (by simp [zer])]
theorem zer_spl : ∀ (k r : Nat), r < 2 → spl (zer (2 * k + r)) = (List.replicate k [], zer r, 0)
  | 0, r, h => by
    rw [Nat.mul_zero, Nat.zero_add]
    apply spl_short
    unfold cutE
    rw [if_pos (by simp [zer]; exact h)]
  | k + 1, r, h => by
    have ih := zer_spl k r h
    rw [show 2 * (k + 1) + r = (2 * k + r) + 2 from by omega, spl_yes (zer_cut _), zer_hd]
    have hdr : (zer (2 * k + r + 2)).drop (2 + 0) = zer (2 * k + r) := by simp [zer]
    rw [hdr, ih]
    simp [List.replicate_succ]

theorem made_zer (n : Nat) : (madeCells (Value.int .u8 0).cells (n * 1)).toList = vals .u8 (zer n) := by
  rw [show (Value.int .u8 0).cells = #[Value.int .u8 0] from rfl, toList_madeCells_one, Nat.mul_one]
  simp [vals, zer]
theorem and_31 (m : Int) : ∃ k : Nat, k < 32 ∧ bits BinOp.and IntKind.i64 m 31 = (k : Int) := by
  have e1 : (BitVec.ofInt 64 m &&& BitVec.ofInt 64 31).toNat = (m % 18446744073709551616).toNat % 2 ^ 5 := by
    rw [BitVec.toNat_and, show (BitVec.ofInt 64 31).toNat = 2 ^ 5 - 1 from rfl, BitVec.toNat_ofInt, Nat.and_two_pow_sub_one_eq_mod]
    rfl
  refine ⟨(m % 18446744073709551616).toNat % 2 ^ 5, Nat.mod_lt _ (by decide), ?_⟩
  show IntKind.i64.wrap ((BitVec.ofInt 64 m &&& BitVec.ofInt 64 31).toNat : Int) = _
  rw [e1]
  have e2 : ((m % 18446744073709551616).toNat % 2 ^ 5 : Nat) < 2 ^ 5 := Nat.mod_lt _ (by decide)
  generalize ((m % 18446744073709551616).toNat % 2 ^ 5 : Nat) = y at *
  simp only [IntKind.wrap, IntKind.bits, IntKind.signed]
  simp
  omega

theorem make_zer (n : Nat) (w : World) (hn : n ≤ 1000) : ∃ w', (Instr.makeSlice 22 (.int .i64 (n : Int)) (.int .i64 (n : Int))).run Try.prog w = .ok (.slice (some ⟨w.heap.size, 0, none⟩) n n) w' ∧
    w'.ownsRow w.heap.size 5 1 (.slice (some ⟨w.heap.size, 0, none⟩) n n) n (vals .u8 (zer n)) ∧ Keep w w' := by
  obtain ⟨i0, hi, hz0, hz1, hz2⟩ := info_parts infoU8
  obtain ⟨w', h1, h2, h3⟩ := run_make_full (P := Try.prog) w w.heap.size 22 5 i0 (.int .u8 0) 1 Try.underlying22 hi hz0 hz1 .i64 .i64 n (by rw [hz2]; omega) (by unfold maxLen; omega) (Nat.le_refl _)
  rw [made_zer] at h2
  exact ⟨w', h1, h2, ⟨h3.os, h3.tape, h3.output, h3.size, fun k hk => h3.block k hk (by simp)⟩⟩

set_option maxRecDepth 100000 in
set_option maxHeartbeats 2000000 in
theorem none_core (n0 m0 : Int) (extra : Bool) (k m : Nat) (w : World) (hk : k < 32) (hm : m < 32) (hmn : m < k ∨ k = m ∨ k < m) (ek : bits BinOp.and IntKind.i64 n0 31 = (k : Int)) (em : bits BinOp.and IntKind.i64 m0 31 = (m : Int)) :
    Calls Try.prog 8 #[.int .i64 n0, .int .i64 m0, .bool extra] w fun e w' => e = .returned (.bool true) ∧ Keep w w' := by
  obtain ⟨i0, hi, hz0, hz1, hz2⟩ := info_parts infoU8
  cases extra
  · rcases hmn with h3 | rfl | h3
    · go_enter Try.func8, Try.ntmps8
      go_wp2_with (go_at_call 9; refine (alive_any _).mono ?_; rintro e w1 ⟨rfl, hk1⟩; obtain ⟨w2, hmk, hr2, hg2⟩ := make_zer (2 * k) w1 (by omega); rw [show ((2 * k : Nat) : Int) = 2 * (k : Int) from by omega] at hmk)
      have hkw := hk1.trans hg2
      have HSP := Lib.hid (zer_spl k 0 (by omega))
      have HY := Lib.hid (show By w2 w2.heap.size (some ⟨w1.heap.size, 0, none⟩) (2 * k) (2 * k) (zer (2 * k)) from ⟨by
        obtain ⟨_, _, e, h⟩ := Lies.of_row hr2
        cases e
        exact h, Nat.le_refl _, fun h => by cases h⟩)
      rw [Nat.add_zero] at HSP
      clear hr2 hg2 hmk hk1
      have hB2 : w2.heap.size ≤ w2.heap.size := Nat.le_refl _
      have n5 := split_any (some ⟨w1.heap.size, 0, none⟩) (2 * k) (2 * k) (zer (2 * k)) w2 w2.heap.size (Nat.le_refl _) HY.out (zer_byt _) (by omega)
      unfold Splitted at n5
      rw [HSP.out] at n5
      refine n5.mono ?_
      rintro e w5 ⟨vb, vl, vs, rfl, hr5, hb5, hl5, hk5⟩
      rw [show vs.length = k from hb5.1.trans (by simp)] at hr5
      replace hl5 : w5.ownsRow _ 5 1 vl (zer 0).length (vals .u8 (zer 0)) := hl5
      rw [show (zer 0).length = 0 from by simp [zer]] at hl5
      obtain ⟨A5, c5, rfl⟩ := row_slice hr5
      obtain ⟨A6, c6, rfl⟩ := row_slice hl5
      have HY5 := Lib.hid (HY.out.keep hk5 hB2)
      have hB5 : w2.heap.size ≤ w5.heap.size := hk5.size
      have hk5 := hkw.trans hk5
      clear n5 hr5 hb5 hl5
      go_wp2_with fail
      have n6 := alls_any (some ⟨w1.heap.size, 0, none⟩) (2 * k) (2 * k) m (zer (2 * k)) w5 w2.heap.size hB5 HY5.out (zer_byt _) (by omega) (by omega)
      rw [HSP.out] at n6
      replace n6 : Calls Try.prog 16 #[.slice (some ⟨w1.heap.size, 0, none⟩) (2 * k) (2 * k), .int .i64 m] w5 (Alls w5 (min m (List.replicate k ([] : List Int)).length)) := n6
      rw [List.length_replicate, show min m k = m from by omega] at n6
      refine n6.mono ?_
      rintro e w6 ⟨v6, ys6, rfl, -, hr6, hk6⟩
      obtain ⟨A7, c7, rfl⟩ := row_slice hr6
      have HY6 := Lib.hid (HY5.out.keep hk6 hB5)
      have hB6 : w2.heap.size ≤ w6.heap.size := Nat.le_trans hB5 hk6.size
      have hk6 := hk5.trans hk6
      clear n6 hr6
      go_wp2_with fail
      have n7 := alls_any (some ⟨w1.heap.size, 0, none⟩) (2 * k) (2 * k) 100 (zer (2 * k)) w6 w2.heap.size hB6 HY6.out (zer_byt _) (by omega) (by omega)
      rw [HSP.out] at n7
      replace n7 : Calls Try.prog 16 #[.slice (some ⟨w1.heap.size, 0, none⟩) (2 * k) (2 * k), .int .i64 100] w6 (Alls w6 (min 100 (List.replicate k ([] : List Int)).length)) := n7
      rw [List.length_replicate, show min 100 k = k from by omega] at n7
      refine n7.mono ?_
      rintro e w7 ⟨v7, ys7, rfl, -, hr7, hk7⟩
      obtain ⟨A8, c8, rfl⟩ := row_slice hr7
      have hk7 := hk6.trans hk7
      clear n7 hr7
      go_wp2
      go_ret
      exact ⟨rfl, hk7⟩
    · go_enter Try.func8, Try.ntmps8
      go_wp2_with (go_at_call 9; refine (alive_any _).mono ?_; rintro e w1 ⟨rfl, hk1⟩; obtain ⟨w2, hmk, hr2, hg2⟩ := make_zer (2 * k) w1 (by omega); rw [show ((2 * k : Nat) : Int) = 2 * (k : Int) from by omega] at hmk)
      have hkw := hk1.trans hg2
      have HSP := Lib.hid (zer_spl k 0 (by omega))
      have HY := Lib.hid (show By w2 w2.heap.size (some ⟨w1.heap.size, 0, none⟩) (2 * k) (2 * k) (zer (2 * k)) from ⟨by
        obtain ⟨_, _, e, h⟩ := Lies.of_row hr2
        cases e
        exact h, Nat.le_refl _, fun h => by cases h⟩)
      rw [Nat.add_zero] at HSP
      clear hr2 hg2 hmk hk1
      have hB2 : w2.heap.size ≤ w2.heap.size := Nat.le_refl _
      have n5 := split_any (some ⟨w1.heap.size, 0, none⟩) (2 * k) (2 * k) (zer (2 * k)) w2 w2.heap.size (Nat.le_refl _) HY.out (zer_byt _) (by omega)
      unfold Splitted at n5
      rw [HSP.out] at n5
      refine n5.mono ?_
      rintro e w5 ⟨vb, vl, vs, rfl, hr5, hb5, hl5, hk5⟩
      rw [show vs.length = k from hb5.1.trans (by simp)] at hr5
      replace hl5 : w5.ownsRow _ 5 1 vl (zer 0).length (vals .u8 (zer 0)) := hl5
      rw [show (zer 0).length = 0 from by simp [zer]] at hl5
      obtain ⟨A5, c5, rfl⟩ := row_slice hr5
      obtain ⟨A6, c6, rfl⟩ := row_slice hl5
      have HY5 := Lib.hid (HY.out.keep hk5 hB2)
      have hB5 : w2.heap.size ≤ w5.heap.size := hk5.size
      have hk5 := hkw.trans hk5
      clear n5 hr5 hb5 hl5
      go_wp2_with fail
      have n6 := alls_any (some ⟨w1.heap.size, 0, none⟩) (2 * k) (2 * k) k (zer (2 * k)) w5 w2.heap.size hB5 HY5.out (zer_byt _) (by omega) (by omega)
      rw [HSP.out] at n6
      replace n6 : Calls Try.prog 16 #[.slice (some ⟨w1.heap.size, 0, none⟩) (2 * k) (2 * k), .int .i64 k] w5 (Alls w5 (min k (List.replicate k ([] : List Int)).length)) := n6
      rw [List.length_replicate, show min k k = k from by omega] at n6
      refine n6.mono ?_
      rintro e w6 ⟨v6, ys6, rfl, -, hr6, hk6⟩
      obtain ⟨A7, c7, rfl⟩ := row_slice hr6
      have HY6 := Lib.hid (HY5.out.keep hk6 hB5)
      have hB6 : w2.heap.size ≤ w6.heap.size := Nat.le_trans hB5 hk6.size
      have hk6 := hk5.trans hk6
      clear n6 hr6
      go_wp2_with fail
      have n7 := alls_any (some ⟨w1.heap.size, 0, none⟩) (2 * k) (2 * k) 100 (zer (2 * k)) w6 w2.heap.size hB6 HY6.out (zer_byt _) (by omega) (by omega)
      rw [HSP.out] at n7
      replace n7 : Calls Try.prog 16 #[.slice (some ⟨w1.heap.size, 0, none⟩) (2 * k) (2 * k), .int .i64 100] w6 (Alls w6 (min 100 (List.replicate k ([] : List Int)).length)) := n7
      rw [List.length_replicate, show min 100 k = k from by omega] at n7
      refine n7.mono ?_
      rintro e w7 ⟨v7, ys7, rfl, -, hr7, hk7⟩
      obtain ⟨A8, c8, rfl⟩ := row_slice hr7
      have hk7 := hk6.trans hk7
      clear n7 hr7
      go_wp2
      go_ret
      exact ⟨rfl, hk7⟩
    · go_enter Try.func8, Try.ntmps8
      go_wp2_with (go_at_call 9; refine (alive_any _).mono ?_; rintro e w1 ⟨rfl, hk1⟩; obtain ⟨w2, hmk, hr2, hg2⟩ := make_zer (2 * k) w1 (by omega); rw [show ((2 * k : Nat) : Int) = 2 * (k : Int) from by omega] at hmk)
      have hkw := hk1.trans hg2
      have HSP := Lib.hid (zer_spl k 0 (by omega))
      have HY := Lib.hid (show By w2 w2.heap.size (some ⟨w1.heap.size, 0, none⟩) (2 * k) (2 * k) (zer (2 * k)) from ⟨by
        obtain ⟨_, _, e, h⟩ := Lies.of_row hr2
        cases e
        exact h, Nat.le_refl _, fun h => by cases h⟩)
      rw [Nat.add_zero] at HSP
      clear hr2 hg2 hmk hk1
      have hB2 : w2.heap.size ≤ w2.heap.size := Nat.le_refl _
      have n5 := split_any (some ⟨w1.heap.size, 0, none⟩) (2 * k) (2 * k) (zer (2 * k)) w2 w2.heap.size (Nat.le_refl _) HY.out (zer_byt _) (by omega)
      unfold Splitted at n5
      rw [HSP.out] at n5
      refine n5.mono ?_
      rintro e w5 ⟨vb, vl, vs, rfl, hr5, hb5, hl5, hk5⟩
      rw [show vs.length = k from hb5.1.trans (by simp)] at hr5
      replace hl5 : w5.ownsRow _ 5 1 vl (zer 0).length (vals .u8 (zer 0)) := hl5
      rw [show (zer 0).length = 0 from by simp [zer]] at hl5
      obtain ⟨A5, c5, rfl⟩ := row_slice hr5
      obtain ⟨A6, c6, rfl⟩ := row_slice hl5
      have HY5 := Lib.hid (HY.out.keep hk5 hB2)
      have hB5 : w2.heap.size ≤ w5.heap.size := hk5.size
      have hk5 := hkw.trans hk5
      clear n5 hr5 hb5 hl5
      go_wp2_with fail
      have n6 := alls_any (some ⟨w1.heap.size, 0, none⟩) (2 * k) (2 * k) m (zer (2 * k)) w5 w2.heap.size hB5 HY5.out (zer_byt _) (by omega) (by omega)
      rw [HSP.out] at n6
      replace n6 : Calls Try.prog 16 #[.slice (some ⟨w1.heap.size, 0, none⟩) (2 * k) (2 * k), .int .i64 m] w5 (Alls w5 (min m (List.replicate k ([] : List Int)).length)) := n6
      rw [List.length_replicate, show min m k = k from by omega] at n6
      refine n6.mono ?_
      rintro e w6 ⟨v6, ys6, rfl, -, hr6, hk6⟩
      obtain ⟨A7, c7, rfl⟩ := row_slice hr6
      have HY6 := Lib.hid (HY5.out.keep hk6 hB5)
      have hB6 : w2.heap.size ≤ w6.heap.size := Nat.le_trans hB5 hk6.size
      have hk6 := hk5.trans hk6
      clear n6 hr6
      go_wp2_with fail
      have n7 := alls_any (some ⟨w1.heap.size, 0, none⟩) (2 * k) (2 * k) 100 (zer (2 * k)) w6 w2.heap.size hB6 HY6.out (zer_byt _) (by omega) (by omega)
      rw [HSP.out] at n7
      replace n7 : Calls Try.prog 16 #[.slice (some ⟨w1.heap.size, 0, none⟩) (2 * k) (2 * k), .int .i64 100] w6 (Alls w6 (min 100 (List.replicate k ([] : List Int)).length)) := n7
      rw [List.length_replicate, show min 100 k = k from by omega] at n7
      refine n7.mono ?_
      rintro e w7 ⟨v7, ys7, rfl, -, hr7, hk7⟩
      obtain ⟨A8, c8, rfl⟩ := row_slice hr7
      have hk7 := hk6.trans hk7
      clear n7 hr7
      go_wp2
      go_ret
      exact ⟨rfl, hk7⟩
  · rcases hmn with h3 | rfl | h3
    · go_enter Try.func8, Try.ntmps8
      go_wp2_with (first
        | (go_at_call 9; refine (alive_any _).mono ?_; rintro e w1 ⟨rfl, hk1⟩; obtain ⟨wm, hmk, hr2, hg2⟩ := make_zer (2 * k) w1 (by omega); rw [show ((2 * k : Nat) : Int) = 2 * (k : Int) from by omega] at hmk; have hw12 := hg2.size)
        | (at_builtin; refine wpList_append_own _ rfl _ _ 22 rfl w1.heap.size 5 i0 (.int .u8 0) 1 1 Try.underlying22 hi hz0 hz1 hz2 rfl (by decide) _ _ _ rfl (hr2.alloc _) ⟨wm.heap.size, 0, none⟩ 1 1 [.int .u8 0] rfl rfl (cell_one_new _ _ _) (by simp [Value.oneCell']) (by unfold maxLen; omega) (by omega) (by simp; omega) ?_; intro v' w2 hown' hgrow _; obtain ⟨g', cap', rfl⟩ := ownsRow_succ hown'))
      have hkw : Keep w w2 := Only.keep (hk1.trans hg2) (((Only.refl (fun q => q = w1.heap.size) wm).alloc _).grown hgrow (fun q _ e => (Option.some.inj (show some w1.heap.size = some q from e)).symm)) (fun q e => by rw [e]; exact hk1.size)
      have HSP := Lib.hid (zer_spl k 1 (by omega))
      have HY := Lib.hid (show By w2 w2.heap.size (some ⟨g', 0, none⟩) (2 * k + 1) cap' (zer (2 * k + 1)) from ⟨by
        obtain ⟨_, _, e, h⟩ := Lies.of_row hown'
        cases e
        rw [show vals .u8 (zer (2 * k + 1)) = vals .u8 (zer (2 * k)) ++ [.int .u8 0] from by simp [vals, zer, List.replicate_succ']]
        exact h, row_cap hown', fun h => by cases h⟩)
      clear hr2 hg2 hmk hk1 hown' hgrow
      have hB2 : w2.heap.size ≤ w2.heap.size := Nat.le_refl _
      have n5 := split_any (some ⟨g', 0, none⟩) (2 * k + 1) cap' (zer (2 * k + 1)) w2 w2.heap.size (Nat.le_refl _) HY.out (zer_byt _) (by omega)
      unfold Splitted at n5
      rw [HSP.out] at n5
      refine n5.mono ?_
      rintro e w5 ⟨vb, vl, vs, rfl, hr5, hb5, hl5, hk5⟩
      rw [show vs.length = k from hb5.1.trans (by simp)] at hr5
      replace hl5 : w5.ownsRow _ 5 1 vl (zer 1).length (vals .u8 (zer 1)) := hl5
      rw [show (zer 1).length = 1 from by simp [zer]] at hl5
      obtain ⟨A5, c5, rfl⟩ := row_slice hr5
      obtain ⟨A6, c6, rfl⟩ := row_slice hl5
      have HY5 := Lib.hid (HY.out.keep hk5 hB2)
      have hB5 : w2.heap.size ≤ w5.heap.size := hk5.size
      have hk5 := hkw.trans hk5
      clear n5 hr5 hb5 hl5
      go_wp2_with fail
      have n6 := alls_any (some ⟨g', 0, none⟩) (2 * k + 1) cap' m (zer (2 * k + 1)) w5 w2.heap.size hB5 HY5.out (zer_byt _) (by omega) (by omega)
      rw [HSP.out] at n6
      replace n6 : Calls Try.prog 16 #[.slice (some ⟨g', 0, none⟩) (2 * k + 1) cap', .int .i64 m] w5 (Alls w5 (min m (List.replicate k ([] : List Int)).length)) := n6
      rw [List.length_replicate, show min m k = m from by omega] at n6
      refine n6.mono ?_
      rintro e w6 ⟨v6, ys6, rfl, -, hr6, hk6⟩
      obtain ⟨A7, c7, rfl⟩ := row_slice hr6
      have HY6 := Lib.hid (HY5.out.keep hk6 hB5)
      have hB6 : w2.heap.size ≤ w6.heap.size := Nat.le_trans hB5 hk6.size
      have hk6 := hk5.trans hk6
      clear n6 hr6
      go_wp2_with fail
      have n7 := alls_any (some ⟨g', 0, none⟩) (2 * k + 1) cap' 100 (zer (2 * k + 1)) w6 w2.heap.size hB6 HY6.out (zer_byt _) (by omega) (by omega)
      rw [HSP.out] at n7
      replace n7 : Calls Try.prog 16 #[.slice (some ⟨g', 0, none⟩) (2 * k + 1) cap', .int .i64 100] w6 (Alls w6 (min 100 (List.replicate k ([] : List Int)).length)) := n7
      rw [List.length_replicate, show min 100 k = k from by omega] at n7
      refine n7.mono ?_
      rintro e w7 ⟨v7, ys7, rfl, -, hr7, hk7⟩
      obtain ⟨A8, c8, rfl⟩ := row_slice hr7
      have hk7 := hk6.trans hk7
      clear n7 hr7
      go_wp2
      go_ret
      exact ⟨rfl, hk7⟩
    · go_enter Try.func8, Try.ntmps8
      go_wp2_with (first
        | (go_at_call 9; refine (alive_any _).mono ?_; rintro e w1 ⟨rfl, hk1⟩; obtain ⟨wm, hmk, hr2, hg2⟩ := make_zer (2 * k) w1 (by omega); rw [show ((2 * k : Nat) : Int) = 2 * (k : Int) from by omega] at hmk; have hw12 := hg2.size)
        | (at_builtin; refine wpList_append_own _ rfl _ _ 22 rfl w1.heap.size 5 i0 (.int .u8 0) 1 1 Try.underlying22 hi hz0 hz1 hz2 rfl (by decide) _ _ _ rfl (hr2.alloc _) ⟨wm.heap.size, 0, none⟩ 1 1 [.int .u8 0] rfl rfl (cell_one_new _ _ _) (by simp [Value.oneCell']) (by unfold maxLen; omega) (by omega) (by simp; omega) ?_; intro v' w2 hown' hgrow _; obtain ⟨g', cap', rfl⟩ := ownsRow_succ hown'))
      have hkw : Keep w w2 := Only.keep (hk1.trans hg2) (((Only.refl (fun q => q = w1.heap.size) wm).alloc _).grown hgrow (fun q _ e => (Option.some.inj (show some w1.heap.size = some q from e)).symm)) (fun q e => by rw [e]; exact hk1.size)
      have HSP := Lib.hid (zer_spl k 1 (by omega))
      have HY := Lib.hid (show By w2 w2.heap.size (some ⟨g', 0, none⟩) (2 * k + 1) cap' (zer (2 * k + 1)) from ⟨by
        obtain ⟨_, _, e, h⟩ := Lies.of_row hown'
        cases e
        rw [show vals .u8 (zer (2 * k + 1)) = vals .u8 (zer (2 * k)) ++ [.int .u8 0] from by simp [vals, zer, List.replicate_succ']]
        exact h, row_cap hown', fun h => by cases h⟩)
      clear hr2 hg2 hmk hk1 hown' hgrow
      have hB2 : w2.heap.size ≤ w2.heap.size := Nat.le_refl _
      have n5 := split_any (some ⟨g', 0, none⟩) (2 * k + 1) cap' (zer (2 * k + 1)) w2 w2.heap.size (Nat.le_refl _) HY.out (zer_byt _) (by omega)
      unfold Splitted at n5
      rw [HSP.out] at n5
      refine n5.mono ?_
      rintro e w5 ⟨vb, vl, vs, rfl, hr5, hb5, hl5, hk5⟩
      rw [show vs.length = k from hb5.1.trans (by simp)] at hr5
      replace hl5 : w5.ownsRow _ 5 1 vl (zer 1).length (vals .u8 (zer 1)) := hl5
      rw [show (zer 1).length = 1 from by simp [zer]] at hl5
      obtain ⟨A5, c5, rfl⟩ := row_slice hr5
      obtain ⟨A6, c6, rfl⟩ := row_slice hl5
      have HY5 := Lib.hid (HY.out.keep hk5 hB2)
      have hB5 : w2.heap.size ≤ w5.heap.size := hk5.size
      have hk5 := hkw.trans hk5
      clear n5 hr5 hb5 hl5
      go_wp2_with fail
      have n6 := alls_any (some ⟨g', 0, none⟩) (2 * k + 1) cap' k (zer (2 * k + 1)) w5 w2.heap.size hB5 HY5.out (zer_byt _) (by omega) (by omega)
      rw [HSP.out] at n6
      replace n6 : Calls Try.prog 16 #[.slice (some ⟨g', 0, none⟩) (2 * k + 1) cap', .int .i64 k] w5 (Alls w5 (min k (List.replicate k ([] : List Int)).length)) := n6
      rw [List.length_replicate, show min k k = k from by omega] at n6
      refine n6.mono ?_
      rintro e w6 ⟨v6, ys6, rfl, -, hr6, hk6⟩
      obtain ⟨A7, c7, rfl⟩ := row_slice hr6
      have HY6 := Lib.hid (HY5.out.keep hk6 hB5)
      have hB6 : w2.heap.size ≤ w6.heap.size := Nat.le_trans hB5 hk6.size
      have hk6 := hk5.trans hk6
      clear n6 hr6
      go_wp2_with fail
      have n7 := alls_any (some ⟨g', 0, none⟩) (2 * k + 1) cap' 100 (zer (2 * k + 1)) w6 w2.heap.size hB6 HY6.out (zer_byt _) (by omega) (by omega)
      rw [HSP.out] at n7
      replace n7 : Calls Try.prog 16 #[.slice (some ⟨g', 0, none⟩) (2 * k + 1) cap', .int .i64 100] w6 (Alls w6 (min 100 (List.replicate k ([] : List Int)).length)) := n7
      rw [List.length_replicate, show min 100 k = k from by omega] at n7
      refine n7.mono ?_
      rintro e w7 ⟨v7, ys7, rfl, -, hr7, hk7⟩
      obtain ⟨A8, c8, rfl⟩ := row_slice hr7
      have hk7 := hk6.trans hk7
      clear n7 hr7
      go_wp2
      go_ret
      exact ⟨rfl, hk7⟩
    · go_enter Try.func8, Try.ntmps8
      go_wp2_with (first
        | (go_at_call 9; refine (alive_any _).mono ?_; rintro e w1 ⟨rfl, hk1⟩; obtain ⟨wm, hmk, hr2, hg2⟩ := make_zer (2 * k) w1 (by omega); rw [show ((2 * k : Nat) : Int) = 2 * (k : Int) from by omega] at hmk; have hw12 := hg2.size)
        | (at_builtin; refine wpList_append_own _ rfl _ _ 22 rfl w1.heap.size 5 i0 (.int .u8 0) 1 1 Try.underlying22 hi hz0 hz1 hz2 rfl (by decide) _ _ _ rfl (hr2.alloc _) ⟨wm.heap.size, 0, none⟩ 1 1 [.int .u8 0] rfl rfl (cell_one_new _ _ _) (by simp [Value.oneCell']) (by unfold maxLen; omega) (by omega) (by simp; omega) ?_; intro v' w2 hown' hgrow _; obtain ⟨g', cap', rfl⟩ := ownsRow_succ hown'))
      have hkw : Keep w w2 := Only.keep (hk1.trans hg2) (((Only.refl (fun q => q = w1.heap.size) wm).alloc _).grown hgrow (fun q _ e => (Option.some.inj (show some w1.heap.size = some q from e)).symm)) (fun q e => by rw [e]; exact hk1.size)
      have HSP := Lib.hid (zer_spl k 1 (by omega))
      have HY := Lib.hid (show By w2 w2.heap.size (some ⟨g', 0, none⟩) (2 * k + 1) cap' (zer (2 * k + 1)) from ⟨by
        obtain ⟨_, _, e, h⟩ := Lies.of_row hown'
        cases e
        rw [show vals .u8 (zer (2 * k + 1)) = vals .u8 (zer (2 * k)) ++ [.int .u8 0] from by simp [vals, zer, List.replicate_succ']]
        exact h, row_cap hown', fun h => by cases h⟩)
      clear hr2 hg2 hmk hk1 hown' hgrow
      have hB2 : w2.heap.size ≤ w2.heap.size := Nat.le_refl _
      have n5 := split_any (some ⟨g', 0, none⟩) (2 * k + 1) cap' (zer (2 * k + 1)) w2 w2.heap.size (Nat.le_refl _) HY.out (zer_byt _) (by omega)
      unfold Splitted at n5
      rw [HSP.out] at n5
      refine n5.mono ?_
      rintro e w5 ⟨vb, vl, vs, rfl, hr5, hb5, hl5, hk5⟩
      rw [show vs.length = k from hb5.1.trans (by simp)] at hr5
      replace hl5 : w5.ownsRow _ 5 1 vl (zer 1).length (vals .u8 (zer 1)) := hl5
      rw [show (zer 1).length = 1 from by simp [zer]] at hl5
      obtain ⟨A5, c5, rfl⟩ := row_slice hr5
      obtain ⟨A6, c6, rfl⟩ := row_slice hl5
      have HY5 := Lib.hid (HY.out.keep hk5 hB2)
      have hB5 : w2.heap.size ≤ w5.heap.size := hk5.size
      have hk5 := hkw.trans hk5
      clear n5 hr5 hb5 hl5
      go_wp2_with fail
      have n6 := alls_any (some ⟨g', 0, none⟩) (2 * k + 1) cap' m (zer (2 * k + 1)) w5 w2.heap.size hB5 HY5.out (zer_byt _) (by omega) (by omega)
      rw [HSP.out] at n6
      replace n6 : Calls Try.prog 16 #[.slice (some ⟨g', 0, none⟩) (2 * k + 1) cap', .int .i64 m] w5 (Alls w5 (min m (List.replicate k ([] : List Int)).length)) := n6
      rw [List.length_replicate, show min m k = k from by omega] at n6
      refine n6.mono ?_
      rintro e w6 ⟨v6, ys6, rfl, -, hr6, hk6⟩
      obtain ⟨A7, c7, rfl⟩ := row_slice hr6
      have HY6 := Lib.hid (HY5.out.keep hk6 hB5)
      have hB6 : w2.heap.size ≤ w6.heap.size := Nat.le_trans hB5 hk6.size
      have hk6 := hk5.trans hk6
      clear n6 hr6
      go_wp2_with fail
      have n7 := alls_any (some ⟨g', 0, none⟩) (2 * k + 1) cap' 100 (zer (2 * k + 1)) w6 w2.heap.size hB6 HY6.out (zer_byt _) (by omega) (by omega)
      rw [HSP.out] at n7
      replace n7 : Calls Try.prog 16 #[.slice (some ⟨g', 0, none⟩) (2 * k + 1) cap', .int .i64 100] w6 (Alls w6 (min 100 (List.replicate k ([] : List Int)).length)) := n7
      rw [List.length_replicate, show min 100 k = k from by omega] at n7
      refine n7.mono ?_
      rintro e w7 ⟨v7, ys7, rfl, -, hr7, hk7⟩
      obtain ⟨A8, c8, rfl⟩ := row_slice hr7
      have hk7 := hk6.trans hk7
      clear n7 hr7
      go_wp2
      go_ret
      exact ⟨rfl, hk7⟩

theorem FrameNone_std (a0 : Int) (_w0 : (Lit.int .i64 a0).wf = true) (a1 : Int) (_w1 : (Lit.int .i64 a1).wf = true) (a2 : Bool) (w : World) :
    Calls Try.prog 8 #[.int .i64 a0, .int .i64 a1, .bool a2] w fun e w' => e = .returned (.bool true) ∧ Below w.heap.size w w' := by
  obtain ⟨k, hk, ek⟩ := and_31 a0
  obtain ⟨m, hm, em⟩ := and_31 a1
  exact none_core a0 a1 a2 k m w hk hm (by omega) ek em
end Go.Proofs.Ytjhakgnjodocpaa
