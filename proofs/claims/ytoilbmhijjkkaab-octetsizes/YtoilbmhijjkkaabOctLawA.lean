/- The walks of OctetInts and OctetSizes. -/
import Derived.Test.YtoilbmhijjkkaabOctAlive
import Derived.Test.YtoilbmhijjkkaabOctMath
import Derived.Test.YtoilbmhijjkkaabRefSign
import Derived.OpenShut
namespace Go.Proofs.Ytoilbmhijjkkaab
open Go.RowKit

theorem and_mask (m : Int) (s : Nat) (hs : s < 63) : bits BinOp.and IntKind.i64 m (((2 ^ s - 1 : Nat) : Nat) : Int) = m % twoP s := by
  have hp : 2 ^ s ≤ 2 ^ 62 := Nat.pow_le_pow_right (by decide) (by omega)
  have hp0 : 0 < 2 ^ s := Nat.two_pow_pos s
  have e1 : (BitVec.ofInt 64 m &&& BitVec.ofInt 64 (((2 ^ s - 1 : Nat) : Nat) : Int)).toNat = (m % 18446744073709551616).toNat % 2 ^ s := by
    rw [BitVec.toNat_and, BitVec.ofInt_natCast, BitVec.toNat_ofNat, BitVec.toNat_ofInt, Nat.mod_eq_of_lt (show 2 ^ s - 1 < 2 ^ 64 by omega), Nat.and_two_pow_sub_one_eq_mod]
    rfl
  have e2 : ((m % 18446744073709551616).toNat % 2 ^ s : Nat) < 2 ^ s := Nat.mod_lt _ hp0
  have e3 : (((m % 18446744073709551616).toNat % 2 ^ s : Nat) : Int) = m % twoP s := by
    rw [Int.natCast_emod, Int.toNat_of_nonneg (by omega), ← twoP_64]
    exact Int.emod_emod_of_dvd m (twoP_dvd (by omega))
  show IntKind.i64.wrap ((BitVec.ofInt 64 m &&& BitVec.ofInt 64 (((2 ^ s - 1 : Nat) : Nat) : Int)).toNat : Int) = _
  rw [e1, ← e3]
  generalize ((m % 18446744073709551616).toNat % 2 ^ s : Nat) = y at *
  simp only [IntKind.wrap, IntKind.bits, IntKind.signed]
  simp
  omega
theorem and_7 (m : Int) : bits BinOp.and IntKind.i64 m 7 = m % 8 := by
  have := and_mask m 3 (by decide)
  rw [show (twoP 3) = 8 from rfl] at this
  rw [← this]
  rfl

/-- How the tests of OctetInts come out. -/
def IntsTests (n : Int) (k : Nat) (g t p : Int) : Prop :=
  ((decide (g < 0) = true ∧ decide (128 ≤ t) = true) ∨ (decide (g < 0) = false ∧ decide (128 ≤ t) = false)) ∧
  (((1 + (k : Int) == 8) = true ∧ (g == n) = true) ∨ ((1 + (k : Int) == 8) = false ∧ wrap64 (-2 ^ (8 * (1 + k) - 1)) = -p ∧ wrap64 (2 ^ (8 * (1 + k) - 1)) = p ∧
    ((decide (-p ≤ n) = false ∧ (g == n) = false) ∨ (decide (-p ≤ n) = true ∧ decide (n < p) = true ∧ (g == n) = true) ∨ (decide (-p ≤ n) = true ∧ decide (n < p) = false ∧ (g == n) = false))))
/-- What the numbers come to: g the number that is got, M the plain one, t the first byte, p the sign's weight. -/
theorem ints_facts (n : Int) (k : Nat) (hk : k < 8) (hn0 : -9223372036854775808 ≤ n) (hn1 : n ≤ 9223372036854775807) :
    ∃ g M t p : Int, sgnI (getB ((putB n (k + 1)).take (k + 1))) (((k + 1 : Nat) : Int) * 8) = g ∧ getB ((putB n (k + 1)).take (k + 1)) = M ∧ lowI (IntKind.u64.wrap n) (8 * (1 + (k : Int))) = M ∧ (putB n (k + 1)).getD 0 0 = t ∧ IntsTests n k g t p := by
  have hlen := putB_length n (k + 1)
  have htk : (putB n (k + 1)).take (k + 1) = putB n (k + 1) := List.take_of_length_le (by omega)
  have e8 : ((k + 1 : Nat) : Int) * 8 = ((8 * k + 7 + 1 : Nat) : Int) := by omega
  have q1 := sgn_eq n (8 * k + 7) (by omega)
  have q2 := sgn_neg n (8 * k + 7) (by omega)
  have q3 := top_byte n k
  rw [show 8 * (k + 1) = 8 * k + 7 + 1 from by omega] at q3
  rw [← q3] at q2
  have hp0 := twoP_pos (8 * k + 7)
  have hw : k < 7 → wrap64 (-2 ^ (8 * (1 + k) - 1)) = -twoP (8 * k + 7) ∧ wrap64 (2 ^ (8 * (1 + k) - 1)) = twoP (8 * k + 7) := by
    intro h7
    rw [show (8 * (1 + k) - 1) = 8 * k + 7 from by omega]
    have e : ((2 : Int) ^ (8 * k + 7)) = twoP (8 * k + 7) := by simp [twoP]
    have h2 := twoP_le (show 8 * k + 7 ≤ 62 by omega)
    rw [show twoP 62 = 4611686018427387904 from rfl] at h2
    rw [e]
    unfold wrap64
    omega
  have h63 : k = 7 → twoP (8 * k + 7) = 9223372036854775808 := by rintro rfl; rfl
  refine ⟨sgnI n ((8 * k + 7 + 1 : Nat) : Int), n % twoP (8 * (k + 1)), n / ((2 ^ (k * 8) : Nat) : Int) % 256, twoP (8 * k + 7), ?_, ?_, ?_, rfl, ?_, ?_⟩
  · rw [htk, get_put, e8, show 8 * (k + 1) = 8 * k + 7 + 1 from by omega, sgnI_low n _ (by omega)]
  · rw [htk, get_put]
  · rw [show 8 * (1 + (k : Int)) = ((8 * (k + 1) : Nat) : Int) from by omega, lowI_nat _ _ (by omega), wrap_low _ _ (by omega)]
  · by_cases hg : sgnI n ((8 * k + 7 + 1 : Nat) : Int) < 0
    · exact .inl ⟨decide_eq_true hg, decide_eq_true (q2.1 hg)⟩
    · exact .inr ⟨decide_eq_false hg, decide_eq_false (fun h => hg (q2.2 h))⟩
  · generalize sgnI n ((8 * k + 7 + 1 : Nat) : Int) = g at *
    generalize twoP (8 * k + 7) = p at *
    by_cases h7 : k = 7
    · have := h63 h7
      exact .inl ⟨beq_iff_eq.2 (by omega), beq_iff_eq.2 (q1.2 ⟨by omega, by omega⟩)⟩
    · obtain ⟨w1, w2⟩ := hw (by omega)
      refine .inr ⟨beq_eq_false_iff_ne.2 (by omega), w1, w2, ?_⟩
      clear w1 w2 hw h63
      by_cases ha : -p ≤ n
      · by_cases hb : n < p
        · exact .inr (.inl ⟨decide_eq_true ha, decide_eq_true hb, beq_iff_eq.2 (q1.2 ⟨ha, hb⟩)⟩)
        · exact .inr (.inr ⟨decide_eq_true ha, decide_eq_false hb, beq_eq_false_iff_ne.2 (fun h => hb (q1.1 h).2)⟩)
      · exact .inl ⟨decide_eq_false ha, beq_eq_false_iff_ne.2 (fun h => ha (q1.1 h).1)⟩

set_option maxRecDepth 100000 in
set_option maxHeartbeats 2000000 in
theorem ints_core (n : Int) (size : Int) (k : Nat) (w : World) (hk : k < 8) (hn0 : -9223372036854775808 ≤ n) (hn1 : n ≤ 9223372036854775807) (em : bits BinOp.and IntKind.i64 size 7 = (k : Int)) :
    Calls Try.prog 8 #[.int .i64 n, .int .i64 size] w fun e w' => e = .returned (.bool true) ∧ Keep w w' := by
  have hf : fsz (1 + (k : Int)) = ((k + 1 : Nat) : Int) := by unfold fsz; omega
  obtain ⟨g, M, t, p, e1, e2, e3, e4, hng, hcs⟩ := ints_facts n k hk hn0 hn1
  have HF := Lib.hid hf
  have E1 := Lib.hid e1
  have E2 := Lib.hid e2
  have E4 := Lib.hid e4
  clear hf e1 e2 e4 hn0 hn1
  have hk1' : ((k : Int) + 1 == 1 + (k : Int)) = true := by rw [beq_iff_eq]; omega
  rcases hcs with ⟨hs8, hgb⟩ | ⟨hs8, ew1, ew2, ⟨hn, hgb⟩ | ⟨hn, hn2, hgb⟩ | ⟨hn, hn2, hgb⟩⟩
  all_goals
    rcases hng with ⟨t1, t2⟩ | ⟨t1, t2⟩
  all_goals as_aux_lemma =>
    go_enter Try.func8, Try.ntmps8
    go_wp2_with (go_at_call 9; refine (alive_any _).mono ?_; rintro e w0 ⟨rfl, hk0⟩)
    have hw0 := wr_new w0
    have hk0a := hk0.alloc (.cells #[.slice none 0 0] 27)
    refine (wint_any n (1 + (k : Int)) w0.heap.size _ [] _ hw0 (by simp)).mono ?_
    rintro e w1 ⟨rfl, v1, hw1, ho1, -⟩
    have hk1 := wr_keep hk0a hw0 hk0.size ho1
    rw [HF.out, Int.toNat_natCast, List.nil_append] at hw1
    clear hw0 hk0a ho1
    go_wp2_with fail
    have HLN := Lib.hid (putB_length n (k + 1))
    have hbyt := putB_byt n (k + 1)
    refine (done_any _ v1 _ w1 hw1 (by rw [HLN.out]; omega)).mono ?_
    rintro e w2 ⟨v2, rfl, hr2, hk12⟩
    have hk2 := hk1.trans hk12
    rw [HLN.out] at hr2
    obtain ⟨A2, c2, hv2, hl2⟩ := Lies.of_row hr2
    rw [hv2]
    clear hw1 hk1 hk12 hr2 hv2
    go_wp2_with fail
    refine (open_any A2 _ c2 _ w2 w2.heap.size (by omega) (Nat.le_refl _) hl2).mono ?_
    rintro e w3 ⟨b3, rfl, hb3, hr3, hk23⟩
    have hk3 := hk2.trans hk23
    have hl3 := hl2.keep hk23 (Nat.le_refl _)
    have hs23 := hk23.size
    have hbw3 : w.heap.size ≤ b3 := Nat.le_trans hk2.size hb3
    clear hl2 hk23
    go_wp2_with fail
    refine (rint_ok (1 + (k : Int)) (k + 1) b3 _ w3 hr3 (by rw [HLN.out]; omega) hbyt HF.out (by rw [HLN.out]; omega)).mono ?_
    rintro e w4 ⟨rfl, -, ho4⟩
    have hk4 := rd_keep hk3 hbw3 ho4
    have hl4 := hl3.rd ho4 hb3 (by omega)
    have hs4 := ho4.size
    rw [E1.out]
    clear hr3 hk3 hl3 ho4
    obtain ⟨gb, off, rfl, -, hc4⟩ := hl4.2 (by omega)
    have hcell : w4.cell? ⟨gb, off, none⟩ = some (.int .u8 t) := by
      have := hc4 0 (by omega)
      rw [vals_getD _ _ _ (by rw [HLN.out]; omega), E4.out] at this
      exact this
    clear hc4
    have HL4 := Lib.hid hl4
    clear hl4 E1 E4
    go_wp2_with fail
    refine (open_any _ _ c2 _ w4 w2.heap.size (by omega) (by omega) HL4.out).mono ?_
    rintro e w5 ⟨b5, rfl, hb5, hr5, hk45⟩
    have hk5 := hk4.trans hk45
    have hc5 := (hk45.cell (p := ⟨gb, off, none⟩) (World.block_lt_of_cell? w4 _ hcell)).trans hcell
    have hbw5 : w.heap.size ≤ b5 := Nat.le_trans hk4.size hb5
    have hgl := World.block_lt_of_cell? w4 _ hcell
    go_wp2_with fail
    refine (get_ok _ (k + 1) b5 _ w5 hr5 (by rw [HLN.out]; omega) hbyt HF.out (by rw [HLN.out]; omega)).mono ?_
    rintro e w6 ⟨rfl, -, ho6⟩
    have hk6 := rd_keep hk5 hbw5 ho6
    have hc6 : w6.cell? ⟨gb, off, none⟩ = some (.int .u8 t) := (World.cell?_of_block (a := ⟨gb, off, none⟩) (ho6.block gb (Nat.lt_of_lt_of_le hgl hk45.size) (by have : w4.heap.size ≤ b5 := hb5; have : gb < w4.heap.size := hgl; omega))).trans hc5
    rw [E2.out]
    clear hr5 hk45 hk5 hc5 ho6
    go_wp2_with fail
    refine (rlow_any _ _ _ (by rw [IntKind.wrap_u64]; omega) (by rw [IntKind.wrap_u64]; omega)).mono ?_
    rintro e w7 ⟨rfl, rfl⟩
    go_wp2
    go_ret
    exact ⟨rfl, hk6⟩

theorem OctetInts_std (a0 : Int) (w0 : (Lit.int .i64 a0).wf = true) (a1 : Int) (_w1 : (Lit.int .i64 a1).wf = true) (w : World) :
    Calls Try.prog 8 #[.int .i64 a0, .int .i64 a1] w fun e w' => e = .returned (.bool true) ∧ Below w.heap.size w w' := by
  have h := bounds_i64 w0
  exact ints_core a0 a1 (a1 % 8).toNat w (by omega) (by omega) (by omega) (by rw [and_7]; omega)
end Go.Proofs.Ytoilbmhijjkkaab
