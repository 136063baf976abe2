/- clock's functions, and the document's own: what each call answers, and does to the time. -/
import Derived.Test.YthfiepgonjfapaaProg
import Derived.Test.YthfiepgonjfapaaClkMath
namespace Go.Proofs.Ythfiepgonjfapaa
open Go.RowKit

/-- The clock at b says c. -/
def Clk (w : World) (b : Nat) (c : Int) : Prop := w.heap[b]? = some (.cells #[.int .i64 c] 25 (0, 0))
theorem Clk.lt {w : World} {b : Nat} {c : Int} (h : Clk w b c) : b < w.heap.size := (Array.getElem?_eq_some_iff.1 h).1
theorem Clk.keep {w w' : World} {b : Nat} {c : Int} (h : Clk w b c) (hk : Keep w w') : Clk w' b c := (hk.block b h.lt).trans h
theorem Clk.only {S : Nat → Prop} {w w' : World} {b : Nat} {c : Int} (h : Clk w b c) (hk : Only S w w') (hb : ¬ S b) : Clk w' b c := (hk.block b h.lt hb).trans h
theorem Clk.new (w : World) (c : Int) : Clk (w.alloc (.cells #[.int .i64 c] 25)) w.heap.size c := World.alloc_heap_new _ _
theorem Clk.cell {w : World} {b : Nat} {c : Int} (h : Clk w b c) : w.cell? ⟨b, 0, none⟩ = some (.int .i64 c) := by
  unfold Clk at h
  simp [World.cell?, h]
theorem Clk.free {w : World} {b : Nat} {c : Int} (h : Clk w b c) : w.frozen? ⟨b, 0, none⟩ = false := by
  unfold Clk at h
  simp [World.frozen?, h]
theorem Clk.set {w : World} {b : Nat} {c : Int} (h : Clk w b c) (d : Int) : Clk (w.setCell ⟨b, 0, none⟩ (.int .i64 d)) b d := by
  have hb := h.lt
  unfold Clk at *
  simp only [World.setCell, Array.getElem?_modify, h, if_true, Option.map_some]
  rfl

theorem now_is (b : Nat) (c : Int) (w : World) (h : Clk w b c) :
    Calls Try.prog 12 #[.pointer (some ⟨b, 0, none⟩)] w fun e w' => e = .returned (.int .i64 c) ∧ w = w' := by
  have hc := h.cell
  clear h
  go_enter Try.func12, Try.ntmps12
  go_wp2
  go_ret
  exact ⟨rfl, rfl⟩
theorem past_is (b : Nat) (c t : Int) (v : Bool) (w : World) (h : Clk w b c) (hv : decide (t ≤ c) = v) :
    Calls Try.prog 13 #[.pointer (some ⟨b, 0, none⟩), .int .i64 t] w fun e w' => e = .returned (.bool v) ∧ w = w' := by
  have hc := h.cell
  clear h
  go_enter Try.func13, Try.ntmps13
  go_wp2
  go_ret
  exact ⟨rfl, rfl⟩
set_option maxHeartbeats 1000000 in
theorem after_is (b : Nat) (c n : Int) (w : World) (h : Clk w b c) (h0 : 0 ≤ c) (h1 : c ≤ 1125899906842624) (hn : inI n) :
    Calls Try.prog 10 #[.pointer (some ⟨b, 0, none⟩), .int .i64 n] w fun e w' => e = .returned (.int .i64 (later c n)) ∧ w = w' := by
  have hc := h.cell
  clear h
  obtain ⟨n0, n1⟩ := hn
  by_cases hneg : n ≤ 0
  · have HE := Lib.hid (later_no (c := c) hneg)
    rcases (show n < 0 ∨ n = 0 by omega) with hn | rfl <;> rcases (show c = 1125899906842624 ∨ c < 1125899906842624 by omega) with hd | hd
    all_goals
      (first | subst hd | skip)
      clear hneg
      go_enter Try.func10, Try.ntmps10
      go_wp2
      go_ret
      exact ⟨ret_int (by have := HE.out; omega), rfl⟩
  · by_cases hl : 1125899906842624 - c < n
    · have HE := Lib.hid (later_end (by omega) hl)
      have hp : 0 < n := by omega
      clear hneg
      go_enter Try.func10, Try.ntmps10
      go_wp2
      go_ret
      exact ⟨ret_int (by have := HE.out; omega), rfl⟩
    · have HE := Lib.hid (later_sum (by omega) hl)
      have hp : 0 < n := by omega
      rcases (show n = 1125899906842624 - c ∨ n < 1125899906842624 - c by omega) with hd | hd
      all_goals
        (first | subst hd | skip)
        clear hneg hl
        go_enter Try.func10, Try.ntmps10
        go_wp2
        go_ret
        exact ⟨ret_int (by have := HE.out; omega), rfl⟩
set_option maxHeartbeats 1000000 in
theorem tick_is (b : Nat) (c n : Int) (w : World) (h : Clk w b c) (h0 : 0 ≤ c) (h1 : c ≤ 1125899906842624) (hn : inI n) :
    Calls Try.prog 11 #[.pointer (some ⟨b, 0, none⟩), .int .i64 n] w fun e w' => e = .returned (.int .i64 (later c n)) ∧ Clk w' b (later c n) ∧ Only (fun k => k = b) w w' := by
  have HA := Lib.hid (after_is b c n w h h0 h1 hn)
  have H := Lib.hid h
  have hc := h.cell
  have hf := h.free
  clear h hn h0 h1
  generalize later c n = d at *
  go_enter Try.func11, Try.ntmps11
  go_wp2_with fail
  refine HA.out.mono ?_
  rintro e w1 ⟨rfl, rfl⟩
  go_wp2
  go_ret
  exact ⟨rfl, H.out.set _, (Only.refl _ w).setCell _ _ rfl⟩
set_option maxRecDepth 100000 in
set_option maxHeartbeats 2000000 in
theorem least_is (A : Option Addr) (n c : Nat) (zs : List Int) (w : World) (h : Lies w w.heap.size A n (vals .i64 zs)) (hn : n ≤ 1000000) :
    Calls Try.prog 14 #[.slice A n c] w fun e w' => e = .returned (.int .i64 (least zs)) ∧ w = w' := by
  have hl : zs.length = n := by have := h.1; rwa [vals_length] at this
  have HL := Lib.hid hl
  have H := Lib.hid h
  clear h hl
  have hn6 : (n : Int) ≤ 1000000 := by omega
  go_enter Try.func14, Try.ntmps14
  go_wp2_with fail
  go_loopw [3, 8] (fun s i wr => ∃ (j : Nat), j ≤ n ∧ i = .int .i64 j ∧ s = .int .i64 (least (zs.take j)) ∧ w = wr) (fun s i _ => n - (intOf i).toNat)
  case atStart => exact ⟨0, Nat.zero_le _, rfl, rfl, by trivial⟩
  case round =>
    obtain ⟨j, hj, rfl, rfl, rfl⟩ := hrel
    by_cases hlt : j < n
    · obtain ⟨v, hv⟩ : ∃ v, zs[j]? = some v := ⟨_, List.getElem?_eq_getElem (by rw [HL.out]; exact hlt)⟩
      obtain ⟨b, off, e, hb, hc⟩ := H.out.2 (by omega)
      subst e
      have c0 : w.cell? ⟨b, off + j, none⟩ = some (.int .i64 v) := by
        rw [hc j hlt, vals_get hv]
      clear hc
      have hjm : (j : Int) < (n : Int) := by omega
      have HT := Lib.hid (show least (zs.take (j + 1)) = lst (least (zs.take j)) v by rw [take_succ hv, least_snoc])
      clear hv
      generalize least (zs.take j) = o at *
      by_cases hneg : v < 0
      · by_cases ho : o = 0
        · have HQ := Lib.hid (show lst o v = 1 by unfold lst; rw [if_pos hneg, if_pos (.inl ho)])
          subst ho
          go_wp2_with fail
          go_roundw
          case rel => exact ⟨j + 1, hlt, by go_num, by rw [HT.out, HQ.out], by trivial⟩
          case measure => simp [intOf]; omega
        · by_cases h1 : 1 < o
          · have HQ := Lib.hid (show lst o v = 1 by unfold lst; rw [if_pos hneg, if_pos (.inr h1)])
            go_wp2_with fail
            go_roundw
            case rel => exact ⟨j + 1, hlt, by go_num, by rw [HT.out, HQ.out], by trivial⟩
            case measure => simp [intOf]; omega
          · have HQ := Lib.hid (show lst o v = o by unfold lst; rw [if_pos hneg, if_neg (by omega)])
            go_wp2_with fail
            go_roundw
            case rel => exact ⟨j + 1, hlt, by go_num, by rw [HT.out, HQ.out], by trivial⟩
            case measure => simp [intOf]; omega
      · by_cases hz : v = 0
        · have HQ := Lib.hid (show lst o v = o by unfold lst; rw [if_neg hneg, if_pos hz])
          subst hz
          clear hneg
          go_wp2_with fail
          go_roundw
          case rel => exact ⟨j + 1, hlt, by go_num, by rw [HT.out, HQ.out], by trivial⟩
          case measure => simp [intOf]; omega
        · have hp : 0 < v := by omega
          by_cases ho : o = 0
          · have HQ := Lib.hid (show lst o v = v by unfold lst; rw [if_neg hneg, if_neg hz, if_pos (.inl ho)])
            subst ho
            go_wp2_with fail
            go_roundw
            case rel => exact ⟨j + 1, hlt, by go_num, by rw [HT.out, HQ.out], by trivial⟩
            case measure => simp [intOf]; omega
          · by_cases h1 : v < o
            · have HQ := Lib.hid (show lst o v = v by unfold lst; rw [if_neg hneg, if_neg hz, if_pos (.inr h1)])
              go_wp2_with fail
              go_roundw
              case rel => exact ⟨j + 1, hlt, by go_num, by rw [HT.out, HQ.out], by trivial⟩
              case measure => simp [intOf]; omega
            · have HQ := Lib.hid (show lst o v = o by unfold lst; rw [if_neg hneg, if_neg hz, if_neg (by omega)])
              have ho2 : (o == 0) = false := by simpa using ho
              go_wp2_with fail
              go_roundw
              case rel => exact ⟨j + 1, hlt, by go_num, by rw [HT.out, HQ.out], by trivial⟩
              case measure => simp [intOf]; omega
    · obtain rfl : j = n := by omega
      have HF := Lib.hid (show zs.take j = zs from List.take_of_length_le (by rw [HL.out]; exact Nat.le_refl _))
      clear hlt hj
      rw [HF.out]
      go_wp2
      go_ret
      exact ⟨rfl, rfl⟩
set_option maxRecDepth 100000 in
set_option maxHeartbeats 2000000 in
theorem rleast_is (A : Option Addr) (n c : Nat) (zs : List Int) (w : World) (h : Lies w w.heap.size A n (vals .i64 zs)) (hn : n ≤ 1000000) :
    Calls Try.prog 15 #[.slice A n c] w fun e w' => e = .returned (.int .i64 (least zs)) ∧ w = w' := by
  have hl : zs.length = n := by have := h.1; rwa [vals_length] at this
  have HL := Lib.hid hl
  have H := Lib.hid h
  clear h hl
  have hn6 : (n : Int) ≤ 1000000 := by omega
  go_enter Try.func15, Try.ntmps15
  go_wp2_with fail
  go_loopw [3, 4] (fun s i wr => ∃ (j : Nat), j ≤ n ∧ i = .int .i64 j ∧ s = .int .i64 (least (zs.take j)) ∧ w = wr) (fun s i _ => n - (intOf i).toNat)
  case atStart => exact ⟨0, Nat.zero_le _, rfl, rfl, by trivial⟩
  case round =>
    obtain ⟨j, hj, rfl, rfl, rfl⟩ := hrel
    by_cases hlt : j < n
    · obtain ⟨v, hv⟩ : ∃ v, zs[j]? = some v := ⟨_, List.getElem?_eq_getElem (by rw [HL.out]; exact hlt)⟩
      obtain ⟨b, off, e, hb, hc⟩ := H.out.2 (by omega)
      subst e
      have c0 : w.cell? ⟨b, off + j, none⟩ = some (.int .i64 v) := by
        rw [hc j hlt, vals_get hv]
      clear hc
      have hjm : (j : Int) < (n : Int) := by omega
      have HT := Lib.hid (show least (zs.take (j + 1)) = lst (least (zs.take j)) v by rw [take_succ hv, least_snoc])
      clear hv
      generalize least (zs.take j) = o at *
      by_cases hneg : v < 0
      · by_cases ho : o = 0
        · have HQ := Lib.hid (show lst o v = 1 by unfold lst; rw [if_pos hneg, if_pos (.inl ho)])
          subst ho
          go_wp2_with fail
          go_roundw
          case rel => exact ⟨j + 1, hlt, by go_num, by rw [HT.out, HQ.out], by trivial⟩
          case measure => simp [intOf]; omega
        · by_cases h1 : 1 < o
          · have HQ := Lib.hid (show lst o v = 1 by unfold lst; rw [if_pos hneg, if_pos (.inr h1)])
            go_wp2_with fail
            go_roundw
            case rel => exact ⟨j + 1, hlt, by go_num, by rw [HT.out, HQ.out], by trivial⟩
            case measure => simp [intOf]; omega
          · have HQ := Lib.hid (show lst o v = o by unfold lst; rw [if_pos hneg, if_neg (by omega)])
            go_wp2_with fail
            go_roundw
            case rel => exact ⟨j + 1, hlt, by go_num, by rw [HT.out, HQ.out], by trivial⟩
            case measure => simp [intOf]; omega
      · by_cases hz : v = 0
        · have HQ := Lib.hid (show lst o v = o by unfold lst; rw [if_neg hneg, if_pos hz])
          subst hz
          clear hneg
          go_wp2_with fail
          go_roundw
          case rel => exact ⟨j + 1, hlt, by go_num, by rw [HT.out, HQ.out], by trivial⟩
          case measure => simp [intOf]; omega
        · have hp : 0 < v := by omega
          by_cases ho : o = 0
          · have HQ := Lib.hid (show lst o v = v by unfold lst; rw [if_neg hneg, if_neg hz, if_pos (.inl ho)])
            subst ho
            go_wp2_with fail
            go_roundw
            case rel => exact ⟨j + 1, hlt, by go_num, by rw [HT.out, HQ.out], by trivial⟩
            case measure => simp [intOf]; omega
          · by_cases h1 : v < o
            · have HQ := Lib.hid (show lst o v = v by unfold lst; rw [if_neg hneg, if_neg hz, if_pos (.inr h1)])
              go_wp2_with fail
              go_roundw
              case rel => exact ⟨j + 1, hlt, by go_num, by rw [HT.out, HQ.out], by trivial⟩
              case measure => simp [intOf]; omega
            · have HQ := Lib.hid (show lst o v = o by unfold lst; rw [if_neg hneg, if_neg hz, if_neg (by omega)])
              have ho2 : (o == 0) = false := by simpa using ho
              go_wp2_with fail
              go_roundw
              case rel => exact ⟨j + 1, hlt, by go_num, by rw [HT.out, HQ.out], by trivial⟩
              case measure => simp [intOf]; omega
    · obtain rfl : j = n := by omega
      have HF := Lib.hid (show zs.take j = zs from List.take_of_length_le (by rw [HL.out]; exact Nat.le_refl _))
      clear hlt hj
      rw [HF.out]
      go_wp2
      go_ret
      exact ⟨rfl, rfl⟩
set_option maxHeartbeats 1000000 in
theorem rlater_is (c n : Int) (w : World) (h0 : 0 ≤ c) (h1 : c ≤ 1125899906842624) (hn : inI n) :
    Calls Try.prog 9 #[.int .i64 c, .int .i64 n] w fun e w' => e = .returned (.int .i64 (later c n)) ∧ w = w' := by
  obtain ⟨n0, n1⟩ := hn
  by_cases hneg : n ≤ 0
  · have HE := Lib.hid (later_no (c := c) hneg)
    go_enter Try.func9, Try.ntmps9
    go_wp2
    go_ret
    exact ⟨ret_int (by have := HE.out; omega), rfl⟩
  · by_cases hb : 1125899906842624 < n
    · have HE := Lib.hid (later_end (c := c) (n := n) (by omega) (by omega))
      go_enter Try.func9, Try.ntmps9
      go_wp2
      go_ret
      exact ⟨ret_int (by have := HE.out; omega), rfl⟩
    · by_cases hl : 1125899906842624 < c + n
      · have HE := Lib.hid (later_end (c := c) (n := n) (by omega) (by omega))
        go_enter Try.func9, Try.ntmps9
        go_wp2
        go_ret
        exact ⟨ret_int (by have := HE.out; omega), rfl⟩
      · have HE := Lib.hid (later_sum (c := c) (n := n) (by omega) (by omega))
        go_enter Try.func9, Try.ntmps9
        go_wp2
        go_ret
        exact ⟨ret_int (by have := HE.out; omega), rfl⟩
end Go.Proofs.Ythfiepgonjfapaa
