/- The document's own functions of layer 7: At, Has, Build, Alike, Empty, Same. -/
import Derived.Test.YtmdhbbibghpijaaDoorIvlRefMk
import Derived.Test.YtmdhbbibghpijaaDoorAreaArg2
import Derived.Test.YtmdhbbibghpijaaDoorAreaTells
import Derived.Test.YtmdhbbibghpijaaDoorSeqR
namespace Go.Proofs.YtmdhbbibghpijaaDoor
open Go.RowKit

set_option maxHeartbeats 1000000 in
theorem rat_any {w0 w : World} {A : Option Addr} {n c N : Nat} {f : Nat → Int → Bool} (i : Int) (h : Area w0 A n N f) (hk : Keep w0 w) :
    Calls Tryd.prog 16 #[.slice A n c, .int .i64 i] w (AtPost w0 w N (fz f i)) := by
  by_cases hneg : i < 0
  · have hb := bg_none w0 (f := fz f i) (fun k => if_pos hneg)
    have HB := Lib.hid hb
    clear h hb hk
    go_enter Tryd.func16, Tryd.ntmps16
    go_wp2
    exact bodyPost_ret (v := .slice none 0 0) (by simp [results, Tryd.f16, go_sem]) rfl ⟨none, 0, 0, rfl, HB.out, Nat.zero_le _, rfl⟩
  · obtain ⟨j, rfl⟩ : ∃ j : Nat, i = j := ⟨i.toNat, by omega⟩
    rw [fz_nat]
    by_cases hlt : j < n
    · obtain ⟨b, off, a, l, c', e, hb, hc, hg, hl⟩ := h.row j hlt
      subst e
      have HG := Lib.hid hg
      have hjm : (j : Int) < (n : Int) := by omega
      have HL := Lib.hid hl
      replace hc := (hk.cell (p := ⟨b, off + j, none⟩) hb).trans hc
      clear h hg hl hneg hk hb
      go_enter Tryd.func16, Tryd.ntmps16
      go_wp2
      exact bodyPost_ret (v := .slice a l c') (by simp [results, Tryd.f16, go_sem]) rfl ⟨a, l, c', rfl, HG.out, HL.out, rfl⟩
    · have hb := bg_none w0 (f := f j) (h.out j (by omega))
      have HB := Lib.hid hb
      have hjm : (n : Int) ≤ (j : Int) := by omega
      clear h hb hneg hk
      go_enter Tryd.func16, Tryd.ntmps16
      go_wp2
      exact bodyPost_ret (v := .slice none 0 0) (by simp [results, Tryd.f16, go_sem]) rfl ⟨none, 0, 0, rfl, HB.out, Nat.zero_le _, rfl⟩

/-- What Build tells of each label. -/
def askF (kind : Int) (f g : Nat → Int → Bool) : Nat → Int → Bool := fun i k => keyB k && asked kind (f i k) (g i k)
theorem one_row (w : World) (v : Value) : Lies (w.alloc (.cells #[v] 32)) (w.heap.size + 1) (some ⟨w.heap.size, 0, none⟩) 1 [v] := by
  refine ⟨rfl, fun _ => ⟨w.heap.size, 0, rfl, by omega, fun j hj => ?_⟩⟩
  have hb := World.alloc_heap_new w (.cells #[v] 32)
  obtain rfl : j = 0 := by omega
  generalize w.alloc (.cells #[v] 32) = V at *
  simp [World.cell?, hb]
theorem sts_of_own {base : Nat} {w : World} {A : Option Addr} {n c N : Nat} {zs : List Sp} {h : Int → Bool} (ho : Own w base A n c zs) (hs : IsSet zs (fun k => h k = true)) (hl : n ≤ N) : StS base w (A, n, c) N h := by
  have hn := (own_prs ho).1.len
  subst hn
  obtain ⟨g1, g2, g3⟩ := own_gives ho
  refine ⟨⟨zs, ⟨g1, g2, g3.1, hs.ok⟩, hs.rt, fun k => ?_⟩, hl, g3⟩
  have h1 := hasB_iff (zs := zs) (k := k)
  rw [hs.mem k] at h1
  cases h2 : hasB zs k <;> cases h3 : h k <;> simp_all
theorem own_cap1 {w : World} {base n c : Nat} {A : Option Addr} {e : TypeId} {xs : List Value} (h : w.ownsRow base e 1 (.slice A n c) n xs) : n ≤ c := by
  rcases h.2 with ⟨e, _⟩ | ⟨g, cap, cur, e, _, _, hle, _⟩
  · cases e; exact Nat.le_refl _
  · cases e; exact hle
/-- Between two rounds of Build. -/
def RbI (w : World) (N : Nat) (F : Nat → Int → Bool) (j : Nat) (A : Option Addr) (c : Nat) (W : World) : Prop :=
  ∃ rs : List SV, rs.length = j ∧ W.ownsRow w.heap.size 32 1 (.slice A j c) j (rs.map SV.v) ∧ Keep w W ∧ ∀ i r, rs[i]? = some r → StS w.heap.size W r N (F i)
theorem rbI_next {w W W3 W4 : World} {N : Nat} {F : Nat → Int → Bool} {j : Nat} {A : Option Addr} {c : Nat} {rs : List SV} (hl : rs.length = j) (ho : W.ownsRow w.heap.size 32 1 (.slice A j c) j (rs.map SV.v)) (hk : Keep w W) (hr : ∀ i r, rs[i]? = some r → StS w.heap.size W r N (F i))
    (hk3 : Keep W W3) {r : SV} (hn : StS w.heap.size W3 r N (F j)) (hg : W3.grownBy W4 (Value.slice A j c).ownBlock) {A4 : Option Addr} {c4 : Nat} (ho4 : W4.ownsRow w.heap.size 32 1 (.slice A4 (j + 1) c4) (j + 1) (rs.map SV.v ++ [r.v])) : RbI w N F (j + 1) A4 c4 W4 := by
  have ho3 := ownsRow_only ho (Only.of_keep (fun _ => False) hk3) (fun _ _ h => h)
  have hS := (Only.refl (fun k => (Value.slice A j c).ownBlock = some k) W3).grown hg (fun k _ e => e)
  have hk4 : Keep w W4 := Only.keep (hk.trans hk3) hS (fun k h => (ho3.lt k h).1)
  have hne : ∀ r : SV, ∀ {h : Int → Bool}, StS w.heap.size W3 r N h → ∀ a, r.1 = some a → ¬ (Value.slice A j c).ownBlock = some a.block := by
    intro r h hs a e hb
    obtain ⟨cur, hc⟩ := own_heap ho3 hb
    exact hs.not_row hc a e rfl
  refine ⟨rs ++ [r], by simp [hl], by rw [List.map_append]; exact ho4, hk4, fun i q hq => ?_⟩
  by_cases hi : i < j
  · rw [List.getElem?_append_left (by omega)] at hq
    have h3 := (hr i q hq).keep hk3
    exact h3.only hS (hne q h3)
  · rw [List.getElem?_append_right (by omega)] at hq
    obtain rfl : i = j := by
      have := (List.getElem?_eq_some_iff.1 hq).1
      simp at this
      omega
    simp [hl] at hq
    subst hq
    exact hn.only hS (hne r hn)

set_option maxRecDepth 100000 in
set_option maxHeartbeats 4000000 in
theorem rbuild_any {w : World} {A B : Option Addr} {na ca nb cb N M : Nat} {f g : Nat → Int → Bool} (n : Nat) (kind : Int) (hn : max na nb = n) (hA : Area w A na N f) (hB : Area w B nb M g) (hN : N ≤ 20000) (hM : M ≤ 20000) (hl : n ≤ 1000000) (hkd : kind = 0 ∨ kind = 1 ∨ kind = 2) :
    Calls Tryd.prog 10 #[.slice A na ca, .slice B nb cb, .int .i64 kind] w (OutA w n (1 + 2 * (N + M)) (askF kind f g)) := by
  obtain ⟨i0, hi, hz0, hz1, hz2⟩ := info_parts infoSps
  have HA := Lib.hid hA
  have HB := Lib.hid hB
  have HKD := Lib.hid hkd
  have h0 : RbI w (1 + 2 * (N + M)) (askF kind f g) 0 (some ⟨w.heap.size, 0, none⟩) 0 (w.alloc (.cells #[] 32)) :=
    ⟨[], rfl, World.ownsRow_made (base := w.heap.size) (e := 32) (size := 1) w #[] 0 (Nat.le_refl _) (Nat.zero_le _) rfl, (Keep.refl w).alloc _, fun i r h => by simp at h⟩
  have H0 := Lib.hid h0
  have HOUT := Lib.hid (show ∀ i, n ≤ i → ∀ k, askF kind f g i k = false from fun i hi k => by
    unfold askF
    rw [hA.out i (by omega) k, hB.out i (by omega) k]
    rcases hkd with rfl | rfl | rfl <;> simp [asked])
  clear hA hB h0 hkd
  go_enter Tryd.func10, Tryd.ntmps10
  go_wp2_with fail
  generalize w.alloc (.cells #[] 32) = W0 at *
  go_loopw [7, 8] (fun ov i wr => ∃ (j : Nat) (A' : Option Addr) (c' : Nat), i = .int .i64 j ∧ ov = .slice A' j c' ∧ j ≤ n ∧ Hid (RbI w (1 + 2 * (N + M)) (askF kind f g) j A' c' wr)) (fun _ i _ => n - (intOf i).toNat)
  case atStart => exact ⟨0, _, _, rfl, rfl, Nat.zero_le _, H0⟩
  case round =>
    obtain ⟨j, A1, c1, rfl, rfl, hj, HI⟩ := hrel
    clear H0
    by_cases hlt : j < n
    · obtain ⟨rs, q0, q1, q2, q3⟩ := HI.out
      clear HI
      have HR := Lib.hid (And.intro q0 (And.intro q1 (And.intro q2 q3)))
      have hml : j + 1 ≤ maxLen := by unfold maxLen; omega
      have HML := Lib.hid hml
      clear q0 q1 q2 q3 hml
      have hor : (j : Int) < (na : Int) ∨ (¬ (j : Int) < (na : Int) ∧ (j : Int) < (nb : Int)) := by omega
      rcases hor with hja | ⟨hja, hjb⟩
      all_goals
        go_wp2_with fail
        go_at_call 16
        refine (rat_any (j : Int) HA.out HR.out.2.2.1).mono ?_
        rintro e wa ⟨a1, l1, d1, rfl, hg1, hl1, rfl⟩
        have HG1 := Lib.hid hg1
        clear hg1
        go_wp2_with fail
        go_at_call 16
        refine (rat_any (j : Int) HB.out HR.out.2.2.1).mono ?_
        rintro e wa ⟨a2, l2, d2, rfl, hg2, hl2, rfl⟩
        obtain ⟨za, hza, hfa⟩ := HG1.out
        obtain ⟨zb, hzb, hfb⟩ := hg2
        rw [fz_nat] at hfa hfb
        have HZA := Lib.hid (hza.keep HR.out.2.2.1)
        have HZB := Lib.hid (hzb.keep HR.out.2.2.1)
        have HF := Lib.hid (And.intro hfa hfb)
        clear hza hzb hfa hfb HG1
        go_wp2_with fail
        go_at_call 30
        refine (build_any kind HZA.out HZB.out (by omega) (by omega) (by have := HKD.out; omega)).mono ?_
        rintro e w2 ⟨A2, n2, c2, zs, rfl, ho2, hs2, hle2, hk2⟩
        have hst : StS w.heap.size w2 (A2, n2, c2) (1 + 2 * (N + M)) (askF kind f g j) := by
          have h1 : StS wa.heap.size w2 (A2, n2, c2) (1 + 2 * (N + M)) (askF kind f g j) := sts_of_own ho2 (hs2.congr (fun k => by unfold askB askF; rw [HF.out.1 k, HF.out.2 k])) (by omega)
          exact h1.mono HR.out.2.2.1.size
        have HST := Lib.hid (hst.keep ((Keep.refl w2).alloc (.cells #[.slice A2 n2 c2] 32)))
        have HK2 := Lib.hid (hk2.alloc (.cells #[.slice A2 n2 c2] 32))
        have HOW := Lib.hid (ownsRow_only HR.out.2.1 (Only.of_keep (fun _ => False) HK2.out) (fun _ _ h => h))
        have HSZ := Lib.hid (HR.out.2.2.1.size)
        clear ho2 hs2 hk2 hst HZA HZB HF
        go_wp2_with (at_builtin; go_must (refine wpList_append_from rfl _ _ 22 rfl w.heap.size 32 i0 (.slice none 0 0) 24 Tryd.underlying22 hi hz0 hz1 hz2 rfl _ j (rs.map SV.v) rfl HOW.out _ (some ⟨w2.heap.size, 0, none⟩) 1 1 [.slice A2 n2 c2] rfl (one_row w2 _) (fun h => by cases h) (fun u hu => by simp at hu; subst hu; rfl) HML.out (by omega) (by have h1 := HK2.out.size; have h2 := HSZ.out; omega) ?_); intro A4 c4 w4 hown4 hgrow4 hat4; have HI4 := Lib.hid (rbI_next (r := (A2, n2, c2)) HR.out.1 HR.out.2.1 HR.out.2.2.1 HR.out.2.2.2 HK2.out HST.out hgrow4 hown4); clear hown4 hgrow4 hat4)
        go_roundw
        case rel => exact ⟨j + 1, _, _, by go_num, rfl, hlt, HI4⟩
        case measure => simp [intOf]; omega
    · obtain rfl : j = n := by omega
      have hja : ¬ (j : Int) < (na : Int) := by omega
      have hjb : ¬ (j : Int) < (nb : Int) := by omega
      have HE := Lib.hid (show OutA w j (1 + 2 * (N + M)) (askF kind f g) (.returned (.slice A1 j c1)) _ by
        obtain ⟨rs, q0, q1, q2, q3⟩ := HI.out
        subst q0
        obtain ⟨A5, c5, e5, h5⟩ := areaS_of_row (base := w.heap.size) (N := 1 + 2 * (N + M)) (f := askF kind f g) q1 HOUT.out q3
        cases e5
        exact ⟨A1, c1, rfl, q2, h5, (own_cap1 q1)⟩)
      clear HI hlt
      go_wp2_with fail
      go_ret
      exact HE.out
end Go.Proofs.YtmdhbbibghpijaaDoor
