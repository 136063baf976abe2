/- The document's own answers of layer 5: Check, Index, Below, Close. -/
import Derived.Test.YtknjekakncjbgabDoorLatMath
import Derived.Test.YtknjekakncjbgabDoorLatFn
import Derived.Test.YtknjekakncjbgabDoorLabRefA
namespace Go.Proofs.YtknjekakncjbgabDoor
open Go.RowKit

theorem hasL_take {ls : List Lb} {k : Nat} {y : Lb} (x : Lb) (h : ls[k]? = some y) : hasL (ls.take (k + 1)) x = (hasL (ls.take k) x || eqL y x) := by
  have hk := (List.getElem?_eq_some_iff.1 h).1
  have : ls.take (k + 1) = ls.take k ++ [y] := by
    rw [List.take_succ_eq_append_getElem hk]
    congr 2
    exact (List.getElem?_eq_some_iff.1 h).2
  rw [this, hasL_snoc]

set_option maxRecDepth 100000 in
set_option maxHeartbeats 2000000 in
theorem rcheck_any (A : Option Addr) (n c : Nat) (ls : List Lb) (w : World) (h : LbS w w.heap.size A n ls) (hl : ∀ y ∈ ls, y.ok) (hn : n ≤ 1000000) :
    Calls Tryd.prog 10 #[.slice A n c] w fun e w' => e = .returned (.int .i64 (newE ls)) ∧ Keep w w' := by
  have hnl := h.len
  by_cases hbad : ls.length = 0 ∨ 16 < ls.length
  · have HE := Lib.hid (show newE ls = 3 from if_pos hbad)
    have hb2 : n = 0 ∨ 16 < n := by omega
    clear hbad hl h hnl
    rcases hb2 with rfl | hb2
    · go_enter Tryd.func10, Tryd.ntmps10
      go_wp2
      go_ret
      exact ⟨ret_int HE.out.symm, Keep.refl _⟩
    · have hb3 : ¬ (n : Int) < 1 := by omega
      go_enter Tryd.func10, Tryd.ntmps10
      go_wp2
      go_ret
      exact ⟨ret_int HE.out.symm, Keep.refl _⟩
  · have HE := Lib.hid (show newE ls = scanE [] ls from if_neg hbad)
    have HN := Lib.hid hnl
    have HP := Lib.hid h
    have HOK := Lib.hid hl
    have hn0 : ¬ (n : Int) < 1 := by omega
    have hn16 : ¬ 16 < (n : Int) := by omega
    have hn1 : n ≤ 16 := by omega
    clear hbad hnl h hl
    go_enter Tryd.func10, Tryd.ntmps10
    go_wp2_with fail
    go_loopw [3] (fun i wr => ∃ (j : Nat), j ≤ n ∧ i = .int .i64 j ∧ Keep w wr ∧ Hid (scanE (ls.take j) (ls.drop j) = scanE [] ls)) (fun i _ => n - (intOf i).toNat)
    case atStart => exact ⟨0, Nat.zero_le _, rfl, Keep.refl w, Lib.hid rfl⟩
    case round =>
      obtain ⟨j, hj, rfl, hk, hsc⟩ := hrel
      by_cases hlt : j < n
      · have hlj : j < ls.length := by rw [HN.out]; exact hlt
        have hoj : ls[j]? = some ls[j] := List.getElem?_eq_getElem hlj
        have hdr : ls.drop j = ls[j] :: ls.drop (j + 1) := List.drop_eq_getElem_cons hlj
        have htk : ls.take (j + 1) = ls.take j ++ [ls[j]] := List.take_succ_eq_append_getElem hlj
        have hxok : ls[j].ok := HOK.out _ (List.getElem_mem hlj)
        generalize ls[j] = x at hoj hdr htk hxok
        rw [hdr] at hsc
        have HTK := Lib.hid htk
        obtain ⟨b, off, rfl, hb, c0, c1⟩ := LbS.cells (HP.out.keep hk (Nat.le_refl _)) j x hoj
        have HC := Lib.hid (And.intro c0 c1)
        have HO := Lib.hid hoj
        have hj16 : (j : Int) ≤ 16 := by omega
        clear hdr htk hoj
        by_cases hch : x.lv ≤ 15
        · have hc0 : chk x = 0 := if_pos hch
          have HCH := Lib.hid hc0
          clear hc0
          go_wp2_with fail
          go_loopw [4] (fun i wi => ∃ (k : Nat), k ≤ j ∧ i = .int .i64 k ∧ Keep wr wi ∧ Hid (hasL (ls.take k) x = false)) (fun i _ => j - (intOf i).toNat)
          case atStart => exact ⟨0, Nat.zero_le _, rfl, Keep.refl _, Lib.hid rfl⟩
          case round =>
            obtain ⟨k, hkj, rfl, hki, hno⟩ := hrel
            by_cases hlk : k < j
            · obtain ⟨y, hy⟩ : ∃ y, ls[k]? = some y := ⟨_, List.getElem?_eq_getElem (by rw [HN.out]; omega)⟩
              obtain ⟨b2, off2, e2, -, d0, d1⟩ := LbS.cells (HP.out.keep (hk.trans hki) (Nat.le_refl _)) k y hy
              cases e2
              have c0 := (hki.cell (p := ⟨b, off + j * 2, none⟩) (Nat.lt_of_lt_of_le hb hk.size)).trans HC.out.1
              have c1 := (hki.cell (p := ⟨b, off + j * 2 + 1, none⟩) (Nat.lt_of_lt_of_le hb hk.size)).trans HC.out.2
              have HH := Lib.hid (hasL_take x hy)
              have hkn : (k : Int) < (n : Int) := by omega
              have hjn : (j : Int) < (n : Int) := by omega
              have q1 := equalIn_lb y.lv y.ct x.lv x.ct
              have hq : eq4 y.lv y.ct x.lv x.ct = eqL y x := rfl
              rw [hq] at q1
              clear hy hq
              cases he : eqL y x
              · rw [he] at q1
                go_wp2_with fail
                go_region
                go_wp2_with fail
                go_roundw
                case rel => exact ⟨k + 1, hlk, by go_num, hki.drew, Lib.hid (by rw [HH.out, hno.out, he]; rfl)⟩
                case measure => simp [intOf]; omega
              · rw [he] at q1
                go_wp2_with fail
                go_region
                go_wp2_with fail
                go_ret
                have hh : hasL (ls.take j) x = true := by
                  have h1 : hasL (ls.take (k + 1)) x = true := by rw [HH.out, he, Bool.or_true]
                  rw [hasL_iff] at *
                  exact (List.take_subset_take_left ls (show k + 1 ≤ j by omega)) h1
                exact ⟨ret_int (by rw [HE.out, ← hsc.out, scanE, if_pos HCH.out, hh]; rfl), (hk.trans hki).drew⟩
            · obtain rfl : k = j := by omega
              go_wp2_with fail
              go_roundw
              case rel => exact ⟨k + 1, hlt, by go_num, hk.trans hki, Lib.hid (by rw [HTK.out, ← hsc.out, scanE, if_pos HCH.out, hno.out]; rfl)⟩
              case measure => simp [intOf]; omega
        · have hc0 : chk x = 23 := if_neg hch
          have HCH := Lib.hid hc0
          have hgt : 15 < x.lv := by omega
          clear hc0
          go_wp2_with fail
          go_ret
          exact ⟨ret_int (by rw [HE.out, ← hsc.out, scanE, if_neg (by rw [HCH.out]; decide)]), hk⟩
      · obtain rfl : j = n := by omega
        go_wp2_with fail
        go_ret
        exact ⟨ret_int (by rw [HE.out, ← hsc.out, List.drop_of_length_le (by rw [HN.out]; exact Nat.le_refl _)]; rfl), hk⟩
end Go.Proofs.YtknjekakncjbgabDoor
