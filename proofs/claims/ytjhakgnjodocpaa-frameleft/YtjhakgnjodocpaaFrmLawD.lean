/- The walk of FrameLeft. -/
import Derived.Test.YtjhakgnjodocpaaFrmMath2
import Derived.Test.YtjhakgnjodocpaaArr2
import Derived.OpenShut
namespace Go.Proofs.Ytjhakgnjodocpaa
open Go.RowKit

/-- A body of the list: its slice and its bytes. -/
theorem bod_at {w : World} {base B : Nat} {A : Option Addr} {vs : List Value} {yss : List (List Int)} (h : Bod w base vs yss) (hl : Lies w B A vs.length vs) (j : Nat) (hj : j < vs.length) :
    ∃ b off Aj cj ys, A = some ⟨b, off, none⟩ ∧ yss[j]? = some ys ∧ w.cell? ⟨b, off + j, none⟩ = some (.slice Aj ys.length cj) ∧ By w w.heap.size Aj ys.length cj ys ∧ b < B := by
  obtain ⟨b, off, e, hB, hc⟩ := hl.2 (by omega)
  have h1 : vs[j]? = some vs[j] := List.getElem?_eq_getElem hj
  have h2 : yss[j]? = some (yss[j]'(by rw [← h.1]; exact hj)) := List.getElem?_eq_getElem (by rw [← h.1]; exact hj)
  obtain ⟨Aj, cj, hv, hy⟩ := By.of_row (h.2 j _ _ h1 h2)
  refine ⟨b, off, Aj, cj, _, e, h2, ?_, hy, hB⟩
  rw [hc j hj, ← hv, List.getD_eq_getElem?_getD, h1]
  rfl

theorem row_lies {w : World} {base : Nat} {e : TypeId} {A : Option Addr} {n m c : Nat} {xs : List Value} (h : w.ownsRow base e 1 (.slice A n c) m xs) : Lies w w.heap.size A n xs := by
  obtain ⟨_, _, e, hl⟩ := Lies.of_row h
  cases e
  exact hl

set_option maxRecDepth 100000 in
set_option maxHeartbeats 2000000 in
theorem left_core (A : Option Addr) (n c : Nat) (xs : List Int) (w : World) (hy : By w w.heap.size A n c xs) (hb : Byt xs) (hn : n ≤ 3000) (yss : List (List Int)) (ls : List Int) (er g : Int) (hsp : spl xs = (yss, ls, er)) (hx : xs = (yss.map frm).flatten ++ ls)
    (hys : ∀ ys ∈ yss, ys.length ≤ 1024) (hg : cutE ls = g) (hbl : Byt ls) (he : er = 0 ∧ g = 20 ∨ er = 2 ∧ g = 2) :
    Calls Try.prog 6 #[.slice A n c] w fun e w' => e = .returned (.bool true) ∧ Keep w w' := by
  obtain ⟨i0, hi, hz0, hz1, hz2⟩ := info_parts infoU8
  have hd1 : decide (3000 < (n : Int)) = false := by simp; omega
  have hxl := hy.len
  have hfl : (yss.map frm).flatten.length + ls.length = n := by rw [← hxl, ← List.length_append, ← hx]
  have hyn : yss.length ≤ n := by
    have := (spl_count _ xs (Nat.le_refl _)).1
    rw [hsp] at this
    exact Nat.le_trans this (by omega)
  have HFL := Lib.hid hfl
  have HY := Lib.hid hy
  have HSP := Lib.hid hsp
  have HX := Lib.hid hx
  have HG := Lib.hid hg
  clear hy hsp hx hg hxl hfl
  go_enter Try.func6, Try.ntmps6
  go_wp2_with (first
    | (go_at_call 9; refine (alive_any _).mono ?_; rintro e w1 ⟨rfl, hk1⟩))
  have HY1 := Lib.hid (HY.out.keep hk1 (Nat.le_refl _))
  have n2 := split_any A n c xs w1 w.heap.size hk1.size HY1.out hb (by omega)
  unfold Splitted at n2
  rw [HSP.out] at n2
  refine n2.mono ?_
  rintro e w2 ⟨vb, vl, vs, rfl, hr2, hb2, hl2, hk2⟩
  replace hb2 : Bod w2 w1.heap.size vs yss := hb2
  replace hl2 : w2.ownsRow w1.heap.size 5 1 vl ls.length (vals .u8 ls) := hl2
  obtain ⟨A2, c2, rfl, hlv⟩ := Lies.of_row hr2
  obtain ⟨A3, c3, rfl, hy3⟩ := By.of_row hl2
  have hvl := hb2.1
  have HB2 := Lib.hid hb2
  have HV := Lib.hid hlv
  have HY3 := Lib.hid hy3
  have hk12 := hk1.trans hk2
  have HYb := Lib.hid (HY.out.keep hk12 (Nat.le_refl _))
  have hs12 := hk12.size
  have HVL := Lib.hid hvl
  obtain ⟨K, hK⟩ : ∃ K, vs.length = K := ⟨_, rfl⟩
  rw [hK] at HV
  have hKn : K ≤ n := by omega
  have HK := Lib.hid hK
  clear n2 hr2 hb2 hl2 hlv hy3 hk1 hk2 HY1 HY hvl
  rw [hK]
  clear hK
  go_wp2_with fail
  go_loopw [6, 28] (fun v i wr => ∃ (j : Nat) (fs : List Int), j ≤ K ∧ i = .int .i64 j ∧ Hid (fs = ((yss.take j).map frm).flatten) ∧ wr.ownsRow w2.heap.size 5 1 v fs.length (vals .u8 fs) ∧ Keep w2 wr) (fun _ i _ => K - (intOf i).toNat)
  case atStart => exact ⟨0, [], Nat.zero_le _, rfl, Lib.hid (by simp), World.ownsRow_made (base := w2.heap.size) (e := 5) (size := 1) w2 #[] 0 (Nat.le_refl _) (Nat.zero_le _) rfl, (Keep.refl w2).alloc _⟩
  case round =>
    obtain ⟨j, fs, hj, rfl, hfs, hrow, hk⟩ := hrel
    obtain ⟨Av, cv, rfl, -⟩ := Lies.of_row hrow
    have hfl : fs.length ≤ n := by
      rw [hfs.out]
      have := fl_le yss j
      have := HFL.out
      omega
    have HR := Lib.hid hrow
    have hs := hk.size
    clear hrow
    by_cases hlt : j < K
    · obtain ⟨b, off, Aj, cj, ys, rfl, hyj, hc, hyb, -⟩ := bod_at (HB2.out.keep hk) (by rw [HK.out]; exact HV.out.keep hk (Nat.le_refl _)) j (by rw [HK.out]; exact hlt)
      have hys1 := hys ys (List.mem_of_getElem? hyj)
      have HYJ := Lib.hid hyj
      have HYB := Lib.hid hyb
      have hfy : fs.length + (frm ys).length ≤ n := by
        have h1 := fl_le yss (j + 1)
        have h2 := HFL.out
        rw [fl_succ hyj, ← hfs.out, List.length_append] at h1
        omega
      clear hyj hyb
      go_wp2_with fail
      refine (wrap_yes Aj _ cj ys wr wr.heap.size (Nat.le_refl _) HYB.out hys1).mono ?_
      rintro e w3 ⟨v3, rfl, hr3, hk3⟩
      have HFS := Lib.hid (show fs ++ frm ys = ((yss.take (j + 1)).map frm).flatten by rw [hfs.out, fl_succ HYJ.out])
      generalize frm ys = zs at *
      obtain ⟨A4, c4, rfl, hy4⟩ := By.of_row hr3
      have HR3 := Lib.hid (row_keep HR.out hk3)
      have HY4 := Lib.hid hy4
      have hs3 := (hk.trans hk3).size
      clear hr3 hy4
      go_wp2_with (at_builtin; refine wpList_append_from rfl _ _ 22 rfl w2.heap.size 5 i0 (.int .u8 0) 1 Try.underlying22 hi hz0 hz1 hz2 rfl _ fs.length (vals .u8 fs) rfl HR3.out w3.heap.size A4 zs.length c4 (vals .u8 zs) rfl HY4.out.lies HY4.out.nil (vals_one _ _) (by unfold maxLen; omega) (by omega) hs3 ?_; intro A5 c5 w5 hown5 hgrow hat)
      have hk5 : Keep w2 w5 := Only.keep (hk.trans hk3) ((Only.refl (fun q => (Value.slice Av fs.length cv).ownBlock = some q) _).grown hgrow (fun q _ e => e)) (fun q e => (HR3.out.lt q e).1)
      rw [← vals_append, ← List.length_append] at hown5
      go_roundw
      case rel => exact ⟨j + 1, fs ++ zs, hlt, by go_num, HFS, by simpa using hown5, hk5⟩
      case measure => simp [intOf]; omega
    · obtain rfl : j = K := by omega
      have hxx : fs ++ ls = xs := by
        rw [hfs.out, HX.out, List.take_of_length_le (by rw [← HVL.out, HK.out]; exact Nat.le_refl _)]
      have hll : fs.length + ls.length = n := by rw [← List.length_append, hxx]; exact HYb.out.len
      have n6 := next_no A3 ls.length c3 ls wr w2.heap.size hs (HY3.out.keep hk (Nat.le_refl _)) hbl (by omega) (by rw [HG.out]; rcases he with ⟨_, rfl⟩ | ⟨_, rfl⟩ <;> decide)
      rw [HG.out] at n6
      have N6 := Lib.hid n6
      have HXX := Lib.hid hxx
      have HLL := Lib.hid hll
      have hll' : fs.length + ls.length ≤ 3000 := by omega
      clear n6 hxx hll
      go_wp2_with fail
      refine N6.out.mono ?_
      rintro e w6 ⟨rfl, hk6⟩
      have HR6 := Lib.hid (row_keep HR.out hk6)
      have hk26 := hk.trans hk6
      have HL6 := Lib.hid (HY3.out.keep hk26 (Nat.le_refl _))
      have HYb6 := Lib.hid (HYb.out.keep hk26 hs12)
      have hs6 := hk26.size
      clear N6 HR hk hk6
      rcases he with ⟨rfl, rfl⟩ | ⟨rfl, rfl⟩
      all_goals
        go_wp2_with (first
          | (at_builtin; refine wpList_append_from rfl _ _ 22 rfl w2.heap.size 5 i0 (.int .u8 0) 1 Try.underlying22 hi hz0 hz1 hz2 rfl _ fs.length (vals .u8 fs) rfl HR6.out w2.heap.size A3 ls.length c3 (vals .u8 ls) rfl HL6.out.lies HL6.out.nil (vals_one _ _) (by unfold maxLen; omega) (by omega) hs6 ?_; intro A7 c7 w7 hown7 hgrow hat; have hk7 : Keep w2 w7 := Only.keep hk26 ((Only.refl (fun q => (Value.slice Av fs.length cv).ownBlock = some q) _).grown hgrow (fun q _ e => e)) (fun q e => (HR6.out.lt q e).1); rw [← vals_append, HXX.out] at hown7; have HO7 := Lib.hid hown7; have HYb7 := Lib.hid (HYb.out.keep hk7 hs12); clear hown7 hgrow hat)
          | (go_at_call 14; refine (same_is A7 (fs.length + ls.length) c7 A n c xs xs _ w7.heap.size w.heap.size (row_lies HO7.out) HYb7.out.lies rfl).mono ?_; rintro e w' ⟨rfl, rfl⟩))
        go_ret
        exact ⟨rfl, hk12.trans hk7⟩

set_option maxHeartbeats 1000000 in
theorem left_long (A : Option Addr) (n c : Nat) (w : World) (h : decide (3000 < (n : Int)) = true) :
    Calls Try.prog 6 #[.slice A n c] w fun e w' => e = .returned (.bool true) ∧ Keep w w' := by
  go_enter Try.func6, Try.ntmps6
  go_wp2_with (go_at_call 9; refine (alive_any _).mono ?_; rintro e w0 ⟨rfl, hk0⟩)
  go_ret
  exact ⟨rfl, hk0⟩

theorem FrameLeft_std (a0 : Option Addr) (l0 c0 : Nat) (z0 : List Int) (w : World) (h0 : Arr .u8 w a0 l0 z0) (hc : l0 ≤ c0 ∧ (a0 = none → c0 = 0)) :
    Calls Try.prog 6 #[.slice a0 l0 c0] w fun e w' => e = .returned (.bool true) ∧ Below w.heap.size w w' := by
  by_cases hn : l0 ≤ 3000
  · have hb : Byt z0 := fun x hx => by have := bounds_u8 (h0.2.2 x hx); omega
    obtain ⟨f1, f2, f3, f4⟩ := spl_facts _ z0 (Nat.le_refl _) hb
    exact left_core a0 l0 c0 z0 w ⟨h0.2.1, hc.1, hc.2⟩ hb hn _ _ _ _ rfl f1 f2 rfl f4 f3
  · exact left_long a0 l0 c0 w (by simp; omega)
end Go.Proofs.Ytjhakgnjodocpaa
