/- The document's own answers of layer 1, further: Rot, Places, In, Of, SameInts. -/
import Derived.Test.YtoilbmhijjkkaaaDoorFitRef2
import Derived.Test.YtoilbmhijjkkaaaDoorFitLawC
import Derived.Deep.QuietTactic
import Derived.BigQuiet
namespace Go.Proofs.YtoilbmhijjkkaaaDoor
open Go.RowKit

theorem power_i (i : Int) (w : World) (h0 : 0 ≤ i) (h1 : i ≤ 63) :
    Calls Tryd.prog 34 #[.int .i64 i] w fun e w' => e = .returned (.int .u64 (twoP i.toNat)) ∧ w = w' := by
  have := power_any i.toNat w (by omega)
  rw [show ((i.toNat : Nat) : Int) = i from by omega] at this
  exact this
theorem tmod_cases (b : Int) : (0 ≤ b.tmod 64 ∧ b.tmod 64 < 64 ∧ b.tmod 64 = b % 64) ∨ (-64 < b.tmod 64 ∧ b.tmod 64 < 0 ∧ b.tmod 64 + 64 = b % 64) := by
  rcases Int.lt_or_le b 0 with h | h
  · obtain ⟨c, hc⟩ : ∃ c, c = -b := ⟨_, rfl⟩
    have e : b.tmod 64 = -(c % 64) := by
      rw [show b = -c from by omega, Int.neg_tmod, Int.tmod_eq_emod_of_nonneg (by omega)]
    omega
  · rw [Int.tmod_eq_emod_of_nonneg h]
    omega

set_option maxHeartbeats 1000000 in
theorem rrot_any (n b : Int) (w : World) (h0 : 0 ≤ n) (h1 : n < 18446744073709551616) :
    Calls Tryd.prog 23 #[.int .u64 n, .int .i64 b] w fun e w' => e = .returned (.int .u64 (rotI n b)) ∧ w = w' := by
  unfold rotI
  have hs : (b % 64).toNat < 64 := by omega
  rw [← rotTo_all n _ h1]
  have HZ := Lib.hid (rotTo_zero n (b % 64).toNat)
  have hc := tmod_cases b
  rw [show b % 64 = (((b % 64).toNat : Nat) : Int) from by omega] at hc
  generalize (b % 64).toNat = s at *
  rcases hc with ⟨c1, c2, c3⟩ | ⟨c1, c2, c3⟩
  all_goals
    have HR := Lib.hid (fun j hj => rotTo_step n s j h0 h1 hs hj)
    go_enter Tryd.func23, Tryd.ntmps23
    go_wp2
    go_loop [5, 6] (fun t k => ∃ j : Nat, j ≤ 64 ∧ k = .int .i64 j ∧ t = .int .u64 (rotTo n s j)) (fun _ k => 64 - (intOf k).toNat)
    case atStart => exact ⟨0, by omega, rfl, by rw [HZ.out]⟩
    case round =>
      obtain ⟨j, hj, rfl, rfl⟩ := hrel
      by_cases hlt : j < 64
      · have key := HR.out j hlt
        have et : (((j : Int) + (s : Int)) % 64).toNat = (j + s) % 64 := by omega
        go_wp2_with (first
          | (go_at_call 31; refine (bit_any _ _ _ h0 h1 (by omega)).mono ?_; rintro e w' ⟨rfl, rfl⟩)
          | (go_at_call 34; refine (power_i _ _ (by omega) (by omega)).mono ?_; rintro e w' ⟨rfl, rfl⟩))
        go_round
        case rel => exact ⟨j + 1, by omega, by go_num, rfl⟩
        case measure => simp [intOf]; omega
      · obtain rfl : j = 64 := by omega
        go_wp2
        go_ret
        exact ⟨rfl, rfl⟩

/-! Places. -/
def upTo (n j : Nat) : List Nat := (List.range j).filter n.testBit
theorem upTo_yes (n j : Nat) (h : n.testBit j = true) : upTo n (j + 1) = upTo n j ++ [j] := by simp [upTo, List.range_succ, List.filter_append, h]
theorem upTo_no (n j : Nat) (h : n.testBit j = false) : upTo n (j + 1) = upTo n j := by simp [upTo, List.range_succ, List.filter_append, h]
theorem upTo_le (n j : Nat) : (upTo n j).length ≤ j := by
  have := List.length_filter_le n.testBit (List.range j)
  simpa [upTo] using this

set_option maxHeartbeats 1000000 in
theorem rplaces_any (n : Int) (w : World) (h0 : 0 ≤ n) (h1 : n < 18446744073709551616) :
    Calls Tryd.prog 17 #[.int .u64 n] w fun e w' => ∃ A c, e = .returned (.slice A (pcI n) c) ∧ Has w' n A ∧ Keep w w' := by
  obtain ⟨i0, hi, hz0, hz1, hz2⟩ := info_parts infoInt
  go_enter Tryd.func17, Tryd.ntmps17
  go_wp2
  go_loopw [3, 4] (fun v k wr => ∃ j : Nat, j ≤ 64 ∧ k = .int .i64 j ∧ wr.ownsRow w.heap.size 3 1 v (upTo n.toNat j).length (rowOf (upTo n.toNat j)) ∧ Keep w wr) (fun _ k _ => 64 - (intOf k).toNat)
  case atStart => exact ⟨0, by omega, rfl, World.ownsRow_made w #[] 0 (Nat.le_refl _) (by simp) rfl, (Below.refl _ _).alloc (Nat.le_refl _) _⟩
  case round =>
    obtain ⟨j, hj, rfl, hrow, hk⟩ := hrel
    by_cases hlt : j < 64
    · have hb := bitI_bit n j h0
      have hul := upTo_le n.toNat j
      by_cases hbit : n.toNat.testBit j = true
      · rw [if_pos hbit] at hb
        go_wp2_with (first
          | (go_at_call 31; refine (bit_any _ _ _ h0 h1 (by omega)).mono ?_; rintro e w' ⟨rfl, rfl⟩)
          | (at_builtin; refine wpList_append_own _ rfl _ _ 42 rfl w.heap.size 3 i0 (.int .i64 0) 1 8 Tryd.underlying42 hi hz0 hz1 hz2 rfl (by decide) _ _ _ rfl (hrow.alloc _) ⟨wr.heap.size, 0, none⟩ 1 1 [.int .i64 j] rfl rfl (cell_one_new _ _ _) (by simp [Value.oneCell']) (by unfold maxLen; omega) (by omega) (by have := hk.size; simp; omega) ?_; intro v' w1 hown' hgrow _))
        have hs1 := hk.size
        have hkw : Keep w w1 := Below.grown (Below.alloc hk hs1 _) hgrow (by simp; omega) (fun k e => (hrow.lt k e).1)
        go_roundw
        case rel => exact ⟨j + 1, by omega, by go_num, by rw [upTo_yes _ _ hbit, rowOf_snoc]; simpa using hown', hkw⟩
        case measure => simp [intOf]; omega
      · rw [if_neg hbit] at hb
        go_wp2_with (go_at_call 31; refine (bit_any _ _ _ h0 h1 (by omega)).mono ?_; rintro e w' ⟨rfl, rfl⟩)
        go_roundw
        case rel => exact ⟨j + 1, by omega, by go_num, by rw [upTo_no _ _ (by simpa using hbit)]; exact hrow, hk⟩
        case measure => simp [intOf]; omega
    · obtain rfl : j = 64 := by omega
      go_wp2
      go_ret
      obtain ⟨A, c, hv, hl⟩ := Lies.of_row hrow
      exact ⟨A, c, congrArg Ending.returned hv, by unfold Has; rw [ints_of]; exact hl, hk⟩

/-! In, Of, SameInts. -/
/-- Does a number stand in a row? -/
def hasI (zs : List Int) (z : Int) : Bool := zs.contains z
theorem hasI_iff (zs : List Int) (z : Int) : hasI zs z = true ↔ z ∈ zs := by unfold hasI; exact List.contains_iff_mem
theorem hasI_nil (z : Int) : hasI [] z = false := rfl
theorem hasI_take (zs : List Int) (z : Int) (k : Nat) (hk : k < zs.length) (h : hasI (zs.take k) z = false) (hz : (zs.getD k 0 == z) = false) : hasI (zs.take (k + 1)) z = false := by
  rw [Bool.eq_false_iff, Ne, hasI_iff] at h ⊢
  rw [List.take_succ_eq_append_getElem hk]
  rw [List.getD_eq_getElem?_getD, List.getElem?_eq_getElem hk] at hz
  have hz' : zs[k] ≠ z := beq_eq_false_iff_ne.1 hz
  intro hm
  rcases List.mem_append.1 hm with hm | hm
  · exact h hm
  · exact hz' (List.mem_singleton.1 hm).symm

set_option maxHeartbeats 1000000 in
theorem in_any (A : Option Addr) (n c : Nat) (zs : List Int) (z : Int) (w : World) (B : Nat) (hn : n ≤ maxLen) (hl : Lies w B A n (ints zs)) :
    Calls Tryd.prog 37 #[.slice A n c, .int .i64 z] w fun e w' => e = .returned (.bool (hasI zs z)) ∧ w = w' := by
  unfold maxLen at hn
  have hlen : zs.length = n := by simpa [ints] using hl.1
  have HL := Lib.hid hlen
  clear hlen
  go_enter Tryd.func37, Tryd.ntmps37
  go_wp2
  go_loop [5] (fun i => ∃ k : Nat, k ≤ n ∧ i = .int .i64 k ∧ hasI (zs.take k) z = false) (fun i => n - (intOf i).toNat)
  case atStart => exact ⟨0, Nat.zero_le _, rfl, hasI_nil z⟩
  case round =>
    obtain ⟨k, hk, rfl, hno⟩ := hrel
    have HN := Lib.hid hno
    clear hno
    by_cases hlt : k < n
    · obtain ⟨b, off, rfl, hB, hc⟩ := hl.2 (by omega)
      have hcell : w.cell? ⟨b, off + k, none⟩ = some (.int .i64 (zs.getD k 0)) := by rw [hc k hlt, ints_getD _ _ (by rw [HL.out]; exact hlt)]
      have HT := Lib.hid (hasI_take zs z k (by rw [HL.out]; exact hlt) HN.out)
      have HI := Lib.hid (show zs.getD k 0 ∈ zs by
        rw [List.getD_eq_getElem?_getD, List.getElem?_eq_getElem (by rw [HL.out]; exact hlt)]
        exact List.getElem_mem _)
      clear hc hl
      generalize zs.getD k 0 = y at *
      by_cases hy : y = z
      · subst hy
        have ht : (y == y) = true := by simp
        go_wp2
        go_ret
        exact ⟨by rw [(hasI_iff zs y).2 HI.out]; rfl, rfl⟩
      · have ht : (y == z) = false := by rw [beq_eq_false_iff_ne]; exact hy
        go_wp2
        go_round
        case rel => exact ⟨k + 1, by omega, by go_num, HT.out ht⟩
        case measure => simp [intOf]; omega
    · go_wp2
      go_ret
      exact ⟨by have := HN.out; rw [List.take_of_length_le (by rw [HL.out]; omega)] at this; rw [this]; rfl, rfl⟩

def ofTo (zs : List Int) (j : Nat) : Int := ((ofN zs % 2 ^ j : Nat) : Int)
theorem ofTo_step (zs : List Int) (j : Nat) (hj : j < 64) : (hasI zs (j : Int) = true ∧ ofTo zs (j + 1) = ofTo zs j + twoP j) ∨ (hasI zs (j : Int) = false ∧ ofTo zs (j + 1) = ofTo zs j) := by
  have hb := of_bit zs j
  have hm : ofN zs % 2 ^ (j + 1) = ofN zs % 2 ^ j + 2 ^ j * (ofN zs / 2 ^ j % 2) := by rw [Nat.pow_succ, Nat.mod_mul]
  rw [Nat.testBit_eq_decide_div_mod_eq] at hb
  unfold ofTo twoP
  rw [hm]
  by_cases hc : hasI zs (j : Int) = true
  · have : ofN zs / 2 ^ j % 2 = 1 := by
      have h2 : decide ((j : Int) ∈ zs ∧ j < 64) = true := decide_eq_true ⟨(hasI_iff zs _).1 hc, hj⟩
      rw [h2] at hb
      exact of_decide_eq_true hb
    exact .inl ⟨hc, by rw [this]; omega⟩
  · have hc' : hasI zs (j : Int) = false := by simpa using hc
    have : ofN zs / 2 ^ j % 2 = 0 := by
      have h2 : decide ((j : Int) ∈ zs ∧ j < 64) = false := decide_eq_false (fun h => hc ((hasI_iff zs _).2 h.1))
      rw [h2] at hb
      have := of_decide_eq_false hb
      omega
    exact .inr ⟨hc', by rw [this]; omega⟩
theorem ofTo_bd (zs : List Int) (j : Nat) : 0 ≤ ofTo zs j ∧ ofTo zs j < 18446744073709551616 := by
  unfold ofTo
  have := ofN_lt zs
  have := Nat.mod_le (ofN zs) (2 ^ j)
  omega

set_option maxRecDepth 100000 in
set_option maxHeartbeats 1000000 in
theorem rof_any (A : Option Addr) (n c : Nat) (zs : List Int) (w : World) (B : Nat) (hn : n ≤ maxLen) (hl : Lies w B A n (ints zs)) :
    Calls Tryd.prog 27 #[.slice A n c] w fun e w' => e = .returned (.int .u64 (ofN zs)) ∧ w = w' := by
  have HI := Lib.hid (fun z w' (e : w = w') => e ▸ in_any A n c zs z w B hn hl)
  clear hn hl
  go_enter Tryd.func27, Tryd.ntmps27
  go_wp2
  go_loop [3, 4] (fun t i => ∃ k : Nat, k ≤ 64 ∧ i = .int .i64 k ∧ t = .int .u64 (ofTo zs k)) (fun _ i => 64 - (intOf i).toNat)
  case atStart => exact ⟨0, Nat.zero_le _, rfl, by simp [ofTo, Nat.mod_one]⟩
  case round =>
    obtain ⟨k, hk, rfl, rfl⟩ := hrel
    by_cases hlt : k < 64
    · obtain ⟨b1, b2⟩ := ofTo_bd zs k
      obtain ⟨b3, b4⟩ := ofTo_bd zs (k + 1)
      have p0 := twoP_pos k
      rcases ofTo_step zs k hlt with ⟨hc, hs⟩ | ⟨hc, hs⟩
      · rw [hs] at b3 b4
        have HS := Lib.hid hs
        clear hs
        have key : IntKind.u64.wrap (ofTo zs k + twoP k) = ofTo zs k + twoP k := by rw [IntKind.wrap_u64]; omega
        have HP := Lib.hid (fun w => power_any k w (by omega))
        clear b1 b2 b3 b4 p0
        generalize ofTo zs k = t at *
        generalize twoP k = p at *
        go_wp2_with (first
          | (go_at_call 37; refine (HI.out _ _ rfl).mono ?_; rintro e w' ⟨rfl, rfl⟩)
          | (go_at_call 34; refine (HP.out _).mono ?_; rintro e w' ⟨rfl, rfl⟩))
        go_round
        case rel => exact ⟨k + 1, by omega, by go_num, by rw [HS.out]⟩
        case measure => simp [intOf]; omega
      · have HS := Lib.hid hs
        clear hs b1 b2 b3 b4 p0
        generalize ofTo zs k = t at *
        go_wp2_with (go_at_call 37; refine (HI.out _ _ rfl).mono ?_; rintro e w' ⟨rfl, rfl⟩)
        go_round
        case rel => exact ⟨k + 1, by omega, by go_num, by rw [HS.out]⟩
        case measure => simp [intOf]; omega
    · obtain rfl : k = 64 := by omega
      have HM := Lib.hid (show ofTo zs 64 = ((ofN zs : Nat) : Int) by unfold ofTo; rw [Nat.mod_eq_of_lt (show ofN zs < 2 ^ 64 from ofN_lt zs)])
      go_wp2
      go_ret
      exact ⟨ret_int HM.out, rfl⟩

set_option maxHeartbeats 1000000 in
theorem same_any (A : Option Addr) (n c : Nat) (A2 : Option Addr) (c2 : Nat) (zs : List Int) (w : World) (B B2 : Nat) (hn : n ≤ maxLen) (hl : Lies w B A n (ints zs)) (hl2 : Lies w B2 A2 n (ints zs)) :
    Calls Tryd.prog 24 #[.slice A n c, .slice A2 n c2] w fun e w' => e = .returned (.bool true) ∧ Keep w w' := by
  unfold maxLen at hn
  have hlen : zs.length = n := by simpa [ints] using hl.1
  have HL := Lib.hid hlen
  clear hlen
  go_enter Tryd.func24, Tryd.ntmps24
  go_wp2
  go_loopw [5] (fun i wr => ∃ k : Nat, k ≤ n ∧ i = .int .i64 k ∧ Lies wr B A n (ints zs) ∧ Lies wr B2 A2 n (ints zs) ∧ Keep w wr) (fun i _ => n - (intOf i).toNat)
  case atStart => exact ⟨0, Nat.zero_le _, rfl, hl, hl2, Keep.refl _⟩
  case round =>
    obtain ⟨k, hk, rfl, hr, hr2, hkp⟩ := hrel
    by_cases hlt : k < n
    · obtain ⟨b, off, rfl, hB, hc⟩ := hr.2 (by omega)
      obtain ⟨b2, off2, rfl, hB2, hc2⟩ := hr2.2 (by omega)
      have hcell : wr.cell? ⟨b, off + k, none⟩ = some (.int .i64 (zs.getD k 0)) := by
        rw [hc k hlt, ints_getD _ _ (by rw [HL.out]; exact hlt)]
      have hcell2 : wr.cell? ⟨b2, off2 + k, none⟩ = some (.int .i64 (zs.getD k 0)) := by
        rw [hc2 k hlt, ints_getD _ _ (by rw [HL.out]; exact hlt)]
      clear hc hc2 hl hl2
      generalize zs.getD k 0 = y at *
      have hi1 : (k : Int) < (n : Int) := by omega
      go_wp2
      go_quiet (fail)
      go_wp2
      go_roundw
      case rel => exact ⟨k + 1, by omega, by go_num, hr, hr2, hkp.trans (below_drewN (Below.refl _ _) _)⟩
      case measure => simp [intOf]; omega
    · go_wp2
      go_ret
      exact ⟨rfl, hkp⟩
end Go.Proofs.YtoilbmhijjkkaaaDoor
