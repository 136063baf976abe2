/- The document's own functions of layer 7: At, Has, Build, Alike, Empty, Same. The document's own functions of layer 7, on: Has, Alike, Empty, Same. The document's own Of of layer 7. -/
import Derived.Test.YtmdhbbibghpijaaDoorIvlRefMk
import Derived.Test.YtmdhbbibghpijaaDoorAreaArg2
import Derived.Test.YtmdhbbibghpijaaDoorAreaTells
namespace Go.Proofs.YtmdhbbibghpijaaDoor
open Go.RowKit

set_option maxHeartbeats 1000000 in
theorem rat_any {w0 w : World} {A : Option Addr} {n c N : Nat} {f : Nat → Int → Bool} (i : Int) (h : Area w0 A n N f) (hk : Keep w0 w) :
    Calls Tryd.prog 16 #[.slice A n c, .int .i64 i] w (AtPost w0 w N (fz f i)) := by
  by_cases hneg : i < 0
  · have hb := bg_none w0 (f := fz f i) (fun k => if_pos hneg)
    have HB := Lib.hid hb
    clear h hb hk
    go_enter Tryd.func16, Tryd.ntmps16
    go_wp2
    exact bodyPost_ret (v := .slice none 0 0) (by simp [results, Tryd.f16, go_sem]) rfl ⟨none, 0, 0, rfl, HB.out, Nat.zero_le _, rfl⟩
  · obtain ⟨j, rfl⟩ : ∃ j : Nat, i = j := ⟨i.toNat, by omega⟩
    rw [fz_nat]
    by_cases hlt : j < n
    · obtain ⟨b, off, a, l, c', e, hb, hc, hg, hl⟩ := h.row j hlt
      subst e
      have HG := Lib.hid hg
      have hjm : (j : Int) < (n : Int) := by omega
      have HL := Lib.hid hl
      replace hc := (hk.cell (p := ⟨b, off + j, none⟩) hb).trans hc
      clear h hg hl hneg hk hb
      go_enter Tryd.func16, Tryd.ntmps16
      go_wp2
      exact bodyPost_ret (v := .slice a l c') (by simp [results, Tryd.f16, go_sem]) rfl ⟨a, l, c', rfl, HG.out, HL.out, rfl⟩
    · have hb := bg_none w0 (f := f j) (h.out j (by omega))
      have HB := Lib.hid hb
      have hjm : (n : Int) ≤ (j : Int) := by omega
      clear h hb hneg hk
      go_enter Tryd.func16, Tryd.ntmps16
      go_wp2
      exact bodyPost_ret (v := .slice none 0 0) (by simp [results, Tryd.f16, go_sem]) rfl ⟨none, 0, 0, rfl, HB.out, Nat.zero_le _, rfl⟩

/-- What Build tells of each label. -/
def askF (kind : Int) (f g : Nat → Int → Bool) : Nat → Int → Bool := fun i k => keyB k && asked kind (f i k) (g i k)
theorem one_row (w : World) (v : Value) : Lies (w.alloc (.cells #[v] 32)) (w.heap.size + 1) (some ⟨w.heap.size, 0, none⟩) 1 [v] := by
  refine ⟨rfl, fun _ => ⟨w.heap.size, 0, rfl, by omega, fun j hj => ?_⟩⟩
  have hb := World.alloc_heap_new w (.cells #[v] 32)
  obtain rfl : j = 0 := by omega
  generalize w.alloc (.cells #[v] 32) = V at *
  simp [World.cell?, hb]
theorem sts_of_own {base : Nat} {w : World} {A : Option Addr} {n c N : Nat} {zs : List Sp} {h : Int → Bool} (ho : Own w base A n c zs) (hs : IsSet zs (fun k => h k = true)) (hl : n ≤ N) : StS base w (A, n, c) N h := by
  have hn := (own_prs ho).1.len
  subst hn
  obtain ⟨g1, g2, g3⟩ := own_gives ho
  refine ⟨⟨zs, ⟨g1, g2, g3.1, hs.ok⟩, hs.rt, fun k => ?_⟩, hl, g3⟩
  have h1 := hasB_iff (zs := zs) (k := k)
  rw [hs.mem k] at h1
  cases h2 : hasB zs k <;> cases h3 : h k <;> simp_all
theorem own_cap1 {w : World} {base n c : Nat} {A : Option Addr} {e : TypeId} {xs : List Value} (h : w.ownsRow base e 1 (.slice A n c) n xs) : n ≤ c := by
  rcases h.2 with ⟨e, _⟩ | ⟨g, cap, cur, e, _, _, hle, _⟩
  · cases e; exact Nat.le_refl _
  · cases e; exact hle
/-- Between two rounds of Build. -/
def RbI (w : World) (N : Nat) (F : Nat → Int → Bool) (j : Nat) (A : Option Addr) (c : Nat) (W : World) : Prop :=
  ∃ rs : List SV, rs.length = j ∧ W.ownsRow w.heap.size 32 1 (.slice A j c) j (rs.map SV.v) ∧ Keep w W ∧ ∀ i r, rs[i]? = some r → StS w.heap.size W r N (F i)
theorem rbI_next {w W W3 W4 : World} {N : Nat} {F : Nat → Int → Bool} {j : Nat} {A : Option Addr} {c : Nat} {rs : List SV} (hl : rs.length = j) (ho : W.ownsRow w.heap.size 32 1 (.slice A j c) j (rs.map SV.v)) (hk : Keep w W) (hr : ∀ i r, rs[i]? = some r → StS w.heap.size W r N (F i))
    (hk3 : Keep W W3) {r : SV} (hn : StS w.heap.size W3 r N (F j)) (hg : W3.grownBy W4 (Value.slice A j c).ownBlock) {A4 : Option Addr} {c4 : Nat} (ho4 : W4.ownsRow w.heap.size 32 1 (.slice A4 (j + 1) c4) (j + 1) (rs.map SV.v ++ [r.v])) : RbI w N F (j + 1) A4 c4 W4 := by
  have ho3 := ownsRow_only ho (Only.of_keep (fun _ => False) hk3) (fun _ _ h => h)
  have hS := (Only.refl (fun k => (Value.slice A j c).ownBlock = some k) W3).grown hg (fun k _ e => e)
  have hk4 : Keep w W4 := Only.keep (hk.trans hk3) hS (fun k h => (ho3.lt k h).1)
  have hne : ∀ r : SV, ∀ {h : Int → Bool}, StS w.heap.size W3 r N h → ∀ a, r.1 = some a → ¬ (Value.slice A j c).ownBlock = some a.block := by
    intro r h hs a e hb
    obtain ⟨cur, hc⟩ := own_heap ho3 hb
    exact hs.not_row hc a e rfl
  refine ⟨rs ++ [r], by simp [hl], by rw [List.map_append]; exact ho4, hk4, fun i q hq => ?_⟩
  by_cases hi : i < j
  · rw [List.getElem?_append_left (by omega)] at hq
    have h3 := (hr i q hq).keep hk3
    exact h3.only hS (hne q h3)
  · rw [List.getElem?_append_right (by omega)] at hq
    obtain rfl : i = j := by
      have := (List.getElem?_eq_some_iff.1 hq).1
      simp at this
      omega
    simp [hl] at hq
    subst hq
    exact hn.only hS (hne r hn)

set_option maxRecDepth 100000 in
set_option maxHeartbeats 4000000 in
theorem rbuild_any {w : World} {A B : Option Addr} {na ca nb cb N M : Nat} {f g : Nat → Int → Bool} (n : Nat) (kind : Int) (hn : max na nb = n) (hA : Area w A na N f) (hB : Area w B nb M g) (hN : N ≤ 20000) (hM : M ≤ 20000) (hl : n ≤ 1000000) (hkd : kind = 0 ∨ kind = 1 ∨ kind = 2) :
    Calls Tryd.prog 10 #[.slice A na ca, .slice B nb cb, .int .i64 kind] w (OutA w n (1 + 2 * (N + M)) (askF kind f g)) := by
  obtain ⟨i0, hi, hz0, hz1, hz2⟩ := info_parts infoSps
  have HA := Lib.hid hA
  have HB := Lib.hid hB
  have HKD := Lib.hid hkd
  have h0 : RbI w (1 + 2 * (N + M)) (askF kind f g) 0 (some ⟨w.heap.size, 0, none⟩) 0 (w.alloc (.cells #[] 32)) :=
    ⟨[], rfl, World.ownsRow_made (base := w.heap.size) (e := 32) (size := 1) w #[] 0 (Nat.le_refl _) (Nat.zero_le _) rfl, (Keep.refl w).alloc _, fun i r h => by simp at h⟩
  have H0 := Lib.hid h0
  have HOUT := Lib.hid (show ∀ i, n ≤ i → ∀ k, askF kind f g i k = false from fun i hi k => by
    unfold askF
    rw [hA.out i (by omega) k, hB.out i (by omega) k]
    rcases hkd with rfl | rfl | rfl <;> simp [asked])
  clear hA hB h0 hkd
  go_enter Tryd.func10, Tryd.ntmps10
  go_wp2_with fail
  generalize w.alloc (.cells #[] 32) = W0 at *
  go_loopw [7, 8] (fun ov i wr => ∃ (j : Nat) (A' : Option Addr) (c' : Nat), i = .int .i64 j ∧ ov = .slice A' j c' ∧ j ≤ n ∧ Hid (RbI w (1 + 2 * (N + M)) (askF kind f g) j A' c' wr)) (fun _ i _ => n - (intOf i).toNat)
  case atStart => exact ⟨0, _, _, rfl, rfl, Nat.zero_le _, H0⟩
  case round =>
    obtain ⟨j, A1, c1, rfl, rfl, hj, HI⟩ := hrel
    clear H0
    by_cases hlt : j < n
    · obtain ⟨rs, q0, q1, q2, q3⟩ := HI.out
      clear HI
      have HR := Lib.hid (And.intro q0 (And.intro q1 (And.intro q2 q3)))
      have hml : j + 1 ≤ maxLen := by unfold maxLen; omega
      have HML := Lib.hid hml
      clear q0 q1 q2 q3 hml
      have hor : (j : Int) < (na : Int) ∨ (¬ (j : Int) < (na : Int) ∧ (j : Int) < (nb : Int)) := by omega
      rcases hor with hja | ⟨hja, hjb⟩
      all_goals
        go_wp2_with fail
        go_at_call 16
        refine (rat_any (j : Int) HA.out HR.out.2.2.1).mono ?_
        rintro e wa ⟨a1, l1, d1, rfl, hg1, hl1, rfl⟩
        have HG1 := Lib.hid hg1
        clear hg1
        go_wp2_with fail
        go_at_call 16
        refine (rat_any (j : Int) HB.out HR.out.2.2.1).mono ?_
        rintro e wa ⟨a2, l2, d2, rfl, hg2, hl2, rfl⟩
        obtain ⟨za, hza, hfa⟩ := HG1.out
        obtain ⟨zb, hzb, hfb⟩ := hg2
        rw [fz_nat] at hfa hfb
        have HZA := Lib.hid (hza.keep HR.out.2.2.1)
        have HZB := Lib.hid (hzb.keep HR.out.2.2.1)
        have HF := Lib.hid (And.intro hfa hfb)
        clear hza hzb hfa hfb HG1
        go_wp2_with fail
        go_at_call 30
        refine (build_any kind HZA.out HZB.out (by omega) (by omega) (by have := HKD.out; omega)).mono ?_
        rintro e w2 ⟨A2, n2, c2, zs, rfl, ho2, hs2, hle2, hk2⟩
        have hst : StS w.heap.size w2 (A2, n2, c2) (1 + 2 * (N + M)) (askF kind f g j) := by
          have h1 : StS wa.heap.size w2 (A2, n2, c2) (1 + 2 * (N + M)) (askF kind f g j) := sts_of_own ho2 (hs2.congr (fun k => by unfold askB askF; rw [HF.out.1 k, HF.out.2 k])) (by omega)
          exact h1.mono HR.out.2.2.1.size
        have HST := Lib.hid (hst.keep ((Keep.refl w2).alloc (.cells #[.slice A2 n2 c2] 32)))
        have HK2 := Lib.hid (hk2.alloc (.cells #[.slice A2 n2 c2] 32))
        have HOW := Lib.hid (ownsRow_only HR.out.2.1 (Only.of_keep (fun _ => False) HK2.out) (fun _ _ h => h))
        have HSZ := Lib.hid (HR.out.2.2.1.size)
        clear ho2 hs2 hk2 hst HZA HZB HF
        go_wp2_with (at_builtin; go_must (refine wpList_append_from rfl _ _ 22 rfl w.heap.size 32 i0 (.slice none 0 0) 24 Tryd.underlying22 hi hz0 hz1 hz2 rfl _ j (rs.map SV.v) rfl HOW.out _ (some ⟨w2.heap.size, 0, none⟩) 1 1 [.slice A2 n2 c2] rfl (one_row w2 _) (fun h => by cases h) (fun u hu => by simp at hu; subst hu; rfl) HML.out (by omega) (by have h1 := HK2.out.size; have h2 := HSZ.out; omega) ?_); intro A4 c4 w4 hown4 hgrow4 hat4; have HI4 := Lib.hid (rbI_next (r := (A2, n2, c2)) HR.out.1 HR.out.2.1 HR.out.2.2.1 HR.out.2.2.2 HK2.out HST.out hgrow4 hown4); clear hown4 hgrow4 hat4)
        go_roundw
        case rel => exact ⟨j + 1, _, _, by go_num, rfl, hlt, HI4⟩
        case measure => simp [intOf]; omega
    · obtain rfl : j = n := by omega
      have hja : ¬ (j : Int) < (na : Int) := by omega
      have hjb : ¬ (j : Int) < (nb : Int) := by omega
      have HE := Lib.hid (show OutA w j (1 + 2 * (N + M)) (askF kind f g) (.returned (.slice A1 j c1)) _ by
        obtain ⟨rs, q0, q1, q2, q3⟩ := HI.out
        subst q0
        obtain ⟨A5, c5, e5, h5⟩ := areaS_of_row (base := w.heap.size) (N := 1 + 2 * (N + M)) (f := askF kind f g) q1 HOUT.out q3
        cases e5
        exact ⟨A1, c1, rfl, q2, h5, (own_cap1 q1)⟩)
      clear HI hlt
      go_wp2_with fail
      go_ret
      exact HE.out
end Go.Proofs.YtmdhbbibghpijaaDoor
namespace Go.Proofs.YtmdhbbibghpijaaDoor
open Go.RowKit

/-- The spans of a set's slice. -/
theorem StS.set {base : Nat} {w : World} {r : SV} {N : Nat} {h : Int → Bool} (g : StS base w r N h) : ∃ zs, Arg w r.1 r.2.1 r.2.2 zs ∧ IsSet zs (fun k => h k = true) ∧ r.2.1 ≤ N := by
  obtain ⟨⟨zs, ha, hr, hq⟩, hm, -⟩ := g
  exact ⟨zs, ha, ⟨hr, fun k => by rw [← hasB_iff, hq k], ha.ok⟩, hm⟩
set_option maxRecDepth 100000 in
set_option maxHeartbeats 4000000 in
theorem alike_t {w : World} {b1 b2 : Nat} {A B : Option Addr} {n ca cb N M : Nat} {f : Nat → Int → Bool} (hA : AreaS b1 w A n N f) (hB : AreaS b2 w B n M f) (hn : n ≤ 1000000) (hN : N ≤ 40000) (hM : M ≤ 40000) :
    Calls Tryd.prog 11 #[.slice A n ca, .slice B n cb] w fun e w' => e = .returned (.bool true) ∧ Keep w w' := by
  have HA := Lib.hid hA
  have HB := Lib.hid hB
  have hni : (n : Int) ≤ 1000000 := by omega
  clear hA hB
  go_enter Tryd.func11, Tryd.ntmps11
  go_wp2_with fail
  go_loopw [5] (fun i wr => ∃ (j : Nat), i = .int .i64 j ∧ j ≤ n ∧ Hid (Keep w wr)) (fun i _ => n - (intOf i).toNat)
  case atStart => exact ⟨0, rfl, Nat.zero_le _, Lib.hid (Keep.refl w)⟩
  case round =>
    obtain ⟨j, rfl, hj, HK⟩ := hrel
    by_cases hlt : j < n
    · have hji : (j : Int) < (n : Int) := by omega
      obtain ⟨b, off, r, e, hb, hc, hs⟩ := (HA.out.keep HK.out).row j hlt
      subst e
      obtain ⟨b', off', r', e, hb', hc', hs'⟩ := (HB.out.keep HK.out).row j hlt
      subst e
      obtain ⟨zs, hz, hset, hl⟩ := hs.set
      obtain ⟨zs', hz', hset', hl'⟩ := hs'.set
      have HQ := Lib.hid (rsame_any r.1 r.2.1 r.2.2 zs r'.1 r'.2.1 r'.2.2 zs' true wr.drew (hz.keep (Keep.refl wr).drew) (hz'.keep (Keep.refl wr).drew) (by omega) (by omega) (by simp [hset.unique hset' (fun _ => Iff.rfl)]))
      have HBOX := Lib.hid (show ∀ X, Keep wr X → X.cell? ⟨b, off + j, none⟩ = some (.slice r.1 r.2.1 r.2.2) ∧ X.cell? ⟨b', off' + j, none⟩ = some (.slice r'.1 r'.2.1 r'.2.2) from fun X hX => ⟨(hX.cell (p := ⟨b, off + j, none⟩) hb).trans hc, (hX.cell (p := ⟨b', off' + j, none⟩) hb').trans hc'⟩)
      clear hb hc hs hb' hc' hs' hz hset hl hz' hset' hl'
      obtain ⟨a1, l1, d1⟩ := r
      obtain ⟨a2, l2, d2⟩ := r'
      dsimp only at HQ HBOX
      go_upto_region 6 with fail
      have hKc := (Keep.refl wr).drew
      refine seq_region (S := fun w' => Keep wr w') [⟨0, 1, 131072⟩, ⟨0, 32, 262144⟩, ⟨3, 393216, 524288⟩, ⟨4, 524288, 1048576⟩, ⟨0, 2, 2097152⟩, ⟨0, 32, 4194304⟩, ⟨48, 6291456, 8388608⟩, ⟨64, 8388608, 16777216⟩, ⟨136, 17825792, 33554432⟩, ⟨256, 33554432, 67108864⟩] [(0, false), (1, false), (2, false), (3, false), (4, false), (5, false), (6, false), (7, false), (8, true), (9, false)] rfl (by kernel_rfl) (by kernel_rfl) (fun _ _ d _ _ h => by cases d <;> exact h) hKc ?_
      simp only [rowsOf, rowAt, gslot, List.map_cons, List.map_nil, List.getElem?_toArray, List.getElem?_cons_zero, List.getElem?_cons_succ]
      repeat (first
        | (refine seq_take (v := ?_) (a' := ?_) (by rfl) ?_ ?_ ?_
           rotate_left 2
           · (intro w hSw; have hcs := HBOX.out w hSw; clear hSw; go_split_ands; go_simp; with_reducible rfl)
           · (simp only [Act.put, List.setIfInBounds_toArray, List.set_cons_zero, List.set_cons_succ]; with_reducible rfl))
        | (refine seq_skip (a' := ?_) hKc (by rfl) ?_ ?_
           rotate_left
           · (simp only [Act.put, List.setIfInBounds_toArray, List.set_cons_zero, List.set_cons_succ]; with_reducible rfl)))
      refine seq_callR (R := fun _ => True) (f := 31) (args := ?_) (v := ?_) (a' := ?_) (by rfl) (by rfl) (by rfl) Tryd.call31 ?_ ?_ ?_ ?_
      rotate_left 3
      · (go_simp; with_reducible rfl)
      · ((with_reducible refine Calls.mono HQ.out ?_)
         rintro e w' ⟨rfl, hk⟩
         refine ⟨?_, hKc.trans hk, trivial⟩
         with_reducible rfl)
      · (simp only [Act.put, List.setIfInBounds_toArray, List.set_cons_zero, List.set_cons_succ]; with_reducible rfl)
      clear hKc
      intro wn hKc _
      repeat (first
        | (refine seq_take (v := ?_) (a' := ?_) (by rfl) ?_ ?_ ?_
           rotate_left 2
           · (intro w hSw; have hcs := HBOX.out w hSw; clear hSw; go_split_ands; go_simp; with_reducible rfl)
           · (simp only [Act.put, List.setIfInBounds_toArray, List.set_cons_zero, List.set_cons_succ]; with_reducible rfl))
        | (refine seq_skip (a' := ?_) hKc (by rfl) ?_ ?_
           rotate_left
           · (simp only [Act.put, List.setIfInBounds_toArray, List.set_cons_zero, List.set_cons_succ]; with_reducible rfl)))
      refine seq_nil ?_
      have HK2 := Lib.hid (HK.out.trans hKc)
      clear hKc HK HQ HBOX
      go_wp2_with fail
      go_roundw
      case rel => exact ⟨j + 1, by go_num, hlt, HK2⟩
      case measure => simp [intOf]; omega
    · obtain rfl : j = n := by omega
      clear hlt
      go_wp2_with fail
      go_ret
      exact ⟨rfl, HK.out⟩
set_option maxRecDepth 100000 in
set_option maxHeartbeats 4000000 in
theorem rempty_any {w : World} {A : Option Addr} {n ca N : Nat} {f : Nat → Int → Bool} (v : Bool) (hA : Area w A n N f) (hn : n ≤ 1000000) (hN : N ≤ 20000) (hv : v = true ↔ ∀ i k, f i k = false) :
    Calls Tryd.prog 23 #[.slice A n ca] w fun e w' => e = .returned (.bool v) ∧ Keep w w' := by
  have HA := Lib.hid hA
  have HV := Lib.hid hv
  have hni : (n : Int) ≤ 1000000 := by omega
  clear hA hv
  go_enter Tryd.func23, Tryd.ntmps23
  go_wp2_with fail
  go_loopw [3] (fun i wr => ∃ (j : Nat), i = .int .i64 j ∧ j ≤ n ∧ Hid (Keep w wr) ∧ Hid (∀ i, i < j → ∀ k, f i k = false)) (fun i _ => n - (intOf i).toNat)
  case atStart => exact ⟨0, rfl, Nat.zero_le _, Lib.hid (Keep.refl w), Lib.hid (fun i h => by omega)⟩
  case round =>
    obtain ⟨j, rfl, hj, HK, HF⟩ := hrel
    by_cases hlt : j < n
    · have hji : (j : Int) < (n : Int) := by omega
      obtain ⟨b, off, a, l, c, e, hb, c0, ⟨zs, hz, hq⟩, hl⟩ := (HA.out.keep HK.out).row j hlt
      subst e
      have HZ := Lib.hid (make_set hz (by omega))
      have HQ := Lib.hid hq
      clear hz hq hb
      go_wp2_with fail
      go_at_call 18
      refine HZ.out.mono ?_
      rintro e w2 ⟨A2, m, c2, ss, rfl, hk2, ha2, hs2, -⟩
      have hnil := isSet_nil hs2
      rw [ha2.len] at hnil
      have HK2 := Lib.hid (HK.out.trans hk2)
      clear ha2 hs2 HZ
      by_cases hm : m = 0
      · have HF2 := Lib.hid (show ∀ i, i < j + 1 → ∀ k, f i k = false from fun i hi k => by
          by_cases hij : i = j
          · subst hij
            have h1 := hnil.1 hm k
            rw [← hasB_iff, HQ.out k] at h1
            simpa using h1
          · exact HF.out i (by omega) k)
        have hmi : ¬ (0 : Int) < (m : Int) := by omega
        subst hm
        clear hnil
        go_wp2_with fail
        go_roundw
        case rel => exact ⟨j + 1, by go_num, hlt, HK2, HF2⟩
        case measure => simp [intOf]; omega
      · have hmi : (0 : Int) < (m : Int) := by omega
        obtain rfl : v = false := by
          cases hv : v with
          | false => rfl
          | true =>
            have h1 := HV.out.1 hv
            exact absurd (hnil.2 (fun k hk => by rw [← hasB_iff, HQ.out k, h1] at hk; cases hk)) hm
        clear hnil
        go_wp2_with fail
        go_ret
        exact ⟨rfl, HK2.out⟩
    · obtain rfl : j = n := by omega
      obtain rfl : v = true := HV.out.2 (fun i k => by
        by_cases hi : i < j
        · exact HF.out i hi k
        · exact HA.out.out i (by omega) k)
      clear hlt
      go_wp2_with fail
      go_ret
      exact ⟨rfl, HK.out⟩
set_option maxRecDepth 100000 in
set_option maxHeartbeats 2000000 in
theorem rhas_c {w : World} {A : Option Addr} {na ca N : Nat} {f : Nat → Int → Bool} (lb k : Int) (hA : Area w A na N f) (hN : N ≤ 20000) (hk : 0 ≤ k ∧ k ≤ 4294967295) :
    Calls Tryd.prog 21 #[.slice A na ca, .agg #[.int .i64 lb, .int .u32 k]] w fun e w' => e = .returned (.bool (fz f lb k)) ∧ Keep w w' := by
  have hb := World.alloc_heap_new w (.cells #[.int .i64 lb, .int .u32 k] 25)
  have hk0 := (Keep.refl w).alloc (.cells #[.int .i64 lb, .int .u32 k] 25)
  have HA := Lib.hid hA
  obtain ⟨k1, k2⟩ := hk
  clear hA
  go_enter Tryd.func21, Tryd.ntmps21
  go_wp2_with fail
  generalize w.alloc (.cells #[.int .i64 lb, .int .u32 k] 25) = W at *
  have hlt : w.heap.size < W.heap.size := (Array.getElem?_eq_some_iff.1 hb).1
  have HBOX := Lib.hid (show ∀ X, Keep W X → X.cell? ⟨w.heap.size, 0, none⟩ = some (.int .i64 lb) ∧ X.cell? ⟨w.heap.size, 1, none⟩ = some (.int .u32 k) from fun X hX => by
    have := (hX.block _ hlt).trans hb
    exact ⟨by simp [World.cell?, this], by simp [World.cell?, this]⟩)
  have HKW := Lib.hid hk0
  have hwk : IntKind.i64.wrap k = k := by rw [IntKind.wrap_i64]; omega
  have hKc := (Keep.refl W).drew
  clear hb hlt hk0
  refine seq_region (S := fun w' => Keep W w') [⟨0, 1, 32⟩, ⟨0, 8, 64⟩, ⟨2, 64, 128⟩, ⟨5, 160, 256⟩, ⟨0, 8, 512⟩, ⟨16, 512, 1024⟩, ⟨32, 1024, 2048⟩, ⟨72, 2304, 4096⟩, ⟨255, 4096, 16⟩] [(0, false), (1, false), (2, false), (4, false), (5, false), (6, false), (3, true), (7, true), (8, false)] rfl (by kernel_rfl) (by kernel_rfl) (fun _ _ d _ _ h => by cases d <;> exact h) hKc ?_
  simp only [rowsOf, rowAt, gslot, List.map_cons, List.map_nil, List.getElem?_toArray, List.getElem?_cons_zero, List.getElem?_cons_succ]
  repeat (first
    | (refine seq_take (v := ?_) (a' := ?_) (by rfl) ?_ ?_ ?_
       rotate_left 2
       · (intro w hSw; have hcs := HBOX.out w hSw; clear hSw; go_split_ands; go_simp; with_reducible rfl)
       · (simp only [Act.put, List.setIfInBounds_toArray, List.set_cons_zero, List.set_cons_succ]; with_reducible rfl))
    | (refine seq_skip (a' := ?_) hKc (by rfl) ?_ ?_
       rotate_left
       · (simp only [Act.put, List.setIfInBounds_toArray, List.set_cons_zero, List.set_cons_succ]; with_reducible rfl)))
  refine sq_callx (R := fun v w' => ∃ a l c, v = .slice a l c ∧ Bg w a l c (fz f lb) ∧ l ≤ N) (f := 16) (args := ?_) (by rfl) (by rfl) (by rfl) Tryd.call16 ?_ ?_ ?_
  rotate_left 1
  · (go_simp; with_reducible rfl)
  · refine (rat_any lb HA.out (HKW.out.trans hKc)).mono ?_
    rintro e w' ⟨a, l, c, rfl, hb, hl, rfl⟩
    exact ⟨_, rfl, hKc, a, l, c, rfl, hb, hl⟩
  rintro v w2 hK2 ⟨a, l, c, rfl, hb, hl⟩
  simp only [Act.put, List.setIfInBounds_toArray, List.set_cons_zero, List.set_cons_succ]
  clear hKc
  have hKc := hK2
  repeat (first
    | (refine seq_take (v := ?_) (a' := ?_) (by rfl) ?_ ?_ ?_
       rotate_left 2
       · (intro w hSw; have hcs := HBOX.out w hSw; clear hSw; go_split_ands; go_simp; with_reducible rfl)
       · (simp only [Act.put, List.setIfInBounds_toArray, List.set_cons_zero, List.set_cons_succ]; with_reducible rfl))
    | (refine seq_skip (a' := ?_) hKc (by rfl) ?_ ?_
       rotate_left
       · (simp only [Act.put, List.setIfInBounds_toArray, List.set_cons_zero, List.set_cons_succ]; with_reducible rfl)))
  refine sq_callx (R := fun v w' => v = .bool (fz f lb k)) (f := 43) (args := ?_) (by rfl) (by rfl) (by rfl) Tryd.call43 ?_ ?_ ?_
  rotate_left 1
  · (go_simp; with_reducible rfl)
  · obtain ⟨zs, hz, hq⟩ := hb.keep (HKW.out.trans hK2)
    refine (rhas_any _ _ _ zs k _ hz (by omega)).mono ?_
    rintro e w' ⟨rfl, rfl⟩
    exact ⟨_, rfl, hK2, by rw [hq k]⟩
  rintro v w3 hK3 rfl
  simp only [Act.put, List.setIfInBounds_toArray, List.set_cons_zero, List.set_cons_succ]
  clear hKc
  have hKc := hK3
  repeat (first
    | (refine seq_take (v := ?_) (a' := ?_) (by rfl) ?_ ?_ ?_
       rotate_left 2
       · (intro w hSw; have hcs := HBOX.out w hSw; clear hSw; go_split_ands; go_simp; with_reducible rfl)
       · (simp only [Act.put, List.setIfInBounds_toArray, List.set_cons_zero, List.set_cons_succ]; with_reducible rfl))
    | (refine seq_skip (a' := ?_) hKc (by rfl) ?_ ?_
       rotate_left
       · (simp only [Act.put, List.setIfInBounds_toArray, List.set_cons_zero, List.set_cons_succ]; with_reducible rfl)))
  refine seq_nil ?_
  have HF := Lib.hid (HKW.out.trans hK3)
  clear hb hl hK2 hK3 hKc
  go_wp2
  go_ret
  exact ⟨rfl, HF.out⟩
/-- One has what the other has not. -/
theorem ask_none {f g : Nat → Int → Bool} (hk : ∀ i k, f i k = true → keyB k = true) : (∀ i k, askF 2 f g i k = false) ↔ ∀ i k, f i k = true → g i k = true := by
  constructor
  · intro h i k hf
    have h1 := h i k
    unfold askF asked at h1
    rw [hk i k hf, hf] at h1
    simpa using h1
  · intro h i k
    have h1 := h i k
    unfold askF asked
    cases hf : f i k <;> cases hg : g i k <;> simp_all
theorem same_iff {f g : Nat → Int → Bool} : (∀ i k, f i k = g i k) ↔ (∀ i k, f i k = true → g i k = true) ∧ ∀ i k, g i k = true → f i k = true := by
  constructor
  · intro h
    exact ⟨fun i k e => by rw [← h i k]; exact e, fun i k e => by rw [h i k]; exact e⟩
  · rintro ⟨a, b⟩ i k
    have a1 := a i k
    have b1 := b i k
    cases hf : f i k <;> cases hg : g i k <;> simp_all
theorem bool_and {v p q : Bool} (h : v = true ↔ p = true ∧ q = true) : v = (p && q) := by
  cases v <;> cases p <;> cases q <;> simp_all
theorem Area.key {w : World} {A : Option Addr} {n N : Nat} {f : Nat → Int → Bool} (h : Area w A n N f) (i : Nat) (k : Int) (hf : f i k = true) : keyB k = true := by
  by_cases hi : i < n
  · obtain ⟨b, off, a, l, c, -, -, -, hg, -⟩ := h.row i hi
    exact hg.key k hf
  · rw [h.out i (by omega) k] at hf; cases hf
set_option maxRecDepth 100000 in
set_option maxHeartbeats 2000000 in
theorem rsamea_any {w : World} {A B : Option Addr} {na ca nb cb N M : Nat} {f g : Nat → Int → Bool} (v : Bool) (hA : Area w A na N f) (hB : Area w B nb M g) (hN : N ≤ 4000) (hM : M ≤ 4000) (hl : max na nb ≤ 1000000) (hv : v = true ↔ ∀ i k, f i k = g i k) :
    Calls Tryd.prog 25 #[.slice A na ca, .slice B nb cb] w fun e w' => e = .returned (.bool v) ∧ Keep w w' := by
  have HA := Lib.hid hA
  have HB := Lib.hid hB
  have HV := Lib.hid hv
  obtain ⟨p, hp⟩ := tells_is (∀ i k, f i k = true → g i k = true)
  have HP := Lib.hid hp
  have hKc := Keep.refl w
  clear hA hB hv hp
  have hq : ∀ q : Bool, (q = true ↔ ∀ i k, g i k = true → f i k = true) → v = (p && q) := by
    intro q hq
    exact bool_and (HV.out.trans (same_iff.trans (and_congr HP.out.iff.symm hq.symm)))
  have HQ := Lib.hid hq
  clear hq
  cases p
  · obtain rfl : v = false := by
      obtain ⟨q, hq⟩ := tells_is (∀ i k, g i k = true → f i k = true)
      exact HQ.out q hq.iff
    go_enter Tryd.func25, Tryd.ntmps25
    go_wp2_with fail
    go_at_call 10
    refine (rbuild_any (max na nb) 2 rfl HA.out HB.out (by omega) (by omega) hl (by decide)).mono ?_
    rintro e w1 ⟨A1, c1, rfl, hk, h1, -⟩
    replace hKc := hKc.trans hk
    clear hk
    have H1 := Lib.hid h1
    clear h1
    go_wp2_with fail
    go_at_call 23
    refine (rempty_any false H1.out.area hl (by omega) (HP.out.iff.trans (ask_none HA.out.key).symm)).mono ?_
    rintro e w2 ⟨rfl, hk⟩
    replace hKc := hKc.trans hk
    clear hk
    go_wp2
    go_ret
    exact ⟨rfl, hKc⟩
  · obtain ⟨q, hq⟩ := tells_is (∀ i k, g i k = true → f i k = true)
    obtain rfl : v = q := by rw [HQ.out q hq.iff]; rfl
    have HW := Lib.hid hq
    clear hq
    go_enter Tryd.func25, Tryd.ntmps25
    go_wp2_with fail
    go_at_call 10
    refine (rbuild_any (max na nb) 2 rfl HA.out HB.out (by omega) (by omega) hl (by decide)).mono ?_
    rintro e w1 ⟨A1, c1, rfl, hk, h1, -⟩
    replace hKc := hKc.trans hk
    clear hk
    have H1 := Lib.hid h1
    clear h1
    go_wp2_with fail
    go_at_call 23
    refine (rempty_any true H1.out.area hl (by omega) (HP.out.iff.trans (ask_none HA.out.key).symm)).mono ?_
    rintro e w2 ⟨rfl, hk⟩
    replace hKc := hKc.trans hk
    clear hk H1
    go_wp2_with fail
    go_at_call 10
    refine (rbuild_any (max na nb) 2 (by omega) (HB.out.keep hKc) (HA.out.keep hKc) (by omega) (by omega) hl (by decide)).mono ?_
    rintro e w3 ⟨A3, c3, rfl, hk, h3, -⟩
    replace hKc := hKc.trans hk
    clear hk
    have H3 := Lib.hid h3
    clear h3
    go_wp2_with fail
    go_at_call 23
    refine (rempty_any v H3.out.area hl (by omega) (HW.out.iff.trans (ask_none HB.out.key).symm)).mono ?_
    rintro e w4 ⟨rfl, hk⟩
    replace hKc := hKc.trans hk
    clear hk
    go_wp2
    go_ret
    exact ⟨rfl, hKc⟩
end Go.Proofs.YtmdhbbibghpijaaDoor
namespace Go.Proofs.YtmdhbbibghpijaaDoor
open Go.RowKit

theorem rheld_any (n lo hi : Int) (w : World) :
    Calls Tryd.prog 39 #[.int .i64 n, .int .i64 lo, .int .i64 hi] w fun e w' => e = .returned (.int .i64 (max (min n hi) lo)) ∧ w = w' := by
  go_enter Tryd.func39, Tryd.ntmps39
  go_wp2
  all_goals
    go_ret
    exact ⟨ret_int (by omega), rfl⟩
/-- What is left when a number is halved so often. -/
def halfI (m j : Nat) : Int := ((m / 2 ^ j : Nat) : Int)
theorem halfI_next (m j : Nat) : halfI m j / 2 = halfI m (j + 1) := by
  unfold halfI
  rw [Nat.pow_succ, ← Nat.div_div_eq_div_mul]
  omega
theorem halfI_bd {m : Nat} (j : Nat) (hm : m < 4294967296) : 0 ≤ halfI m j ∧ halfI m j ≤ 4294967295 := by
  have := Nat.div_le_self m (2 ^ j)
  unfold halfI
  generalize m / 2 ^ j = d at *
  omega
def bitM (m i : Nat) : Int := halfI m i % 2
theorem rbit_any (m i : Nat) (w : World) (hm : m < 4294967296) (hi : i ≤ 64) :
    Calls Tryd.prog 65 #[.int .u64 m, .int .i64 i] w fun e w' => e = .returned (.int .u64 (bitM m i)) ∧ w = w' := by
  have e0 : (m : Int) = halfI m 0 := by unfold halfI; simp
  rw [e0]
  have HB := Lib.hid (fun j => halfI_bd j hm)
  have HN := Lib.hid (halfI_next m)
  clear hm e0
  go_enter Tryd.func65, Tryd.ntmps65
  go_wp2
  go_loop [0, 5] (fun t k => ∃ j : Nat, j ≤ i ∧ k = .int .i64 j ∧ t = .int .u64 (halfI m j)) (fun _ k => i - (intOf k).toNat)
  case atStart => exact ⟨0, by omega, rfl, rfl⟩
  case round =>
    obtain ⟨j, hj, rfl, rfl⟩ := hrel
    obtain ⟨d0, d1⟩ := HB.out j
    have HD := Lib.hid (HN.out j)
    by_cases hlt : j < i
    · generalize halfI m j = d at *
      go_wp2
      go_round
      case rel => exact ⟨j + 1, by omega, by go_num, by rw [← HD.out]⟩
      case measure => simp [intOf]; omega
    · obtain rfl : j = i := by omega
      have HB2 := Lib.hid (show bitM m j = halfI m j % 2 from rfl)
      generalize halfI m j = d at *
      go_wp2
      go_ret
      exact ⟨ret_int HB2.out.symm, rfl⟩
theorem rhasm_any (m i : Nat) (v : Bool) (w : World) (hm : m < 4294967296) (hi : i ≤ 64) (hv : m.testBit i = v) :
    Calls Tryd.prog 40 #[.int .u32 m, .int .i64 i] w fun e w' => e = .returned (.bool v) ∧ Keep w w' := by
  rw [Nat.testBit_eq_decide_div_mod_eq] at hv
  have HC := Lib.hid (rbit_any m i w hm hi)
  obtain ⟨d, hd⟩ : ∃ d, d = m / 2 ^ i % 2 := ⟨_, rfl⟩
  rw [← hd] at hv
  have hdi : bitM m i = (d : Int) := by rw [hd]; unfold bitM halfI; omega
  rw [hdi] at HC
  have hm0 : (0 : Int) ≤ (m : Int) := by omega
  have hm1 : (m : Int) ≤ 4294967295 := by omega
  cases v
  · have hd0 : d = 0 := by
      have := of_decide_eq_false hv
      omega
    subst hd0
    clear hv hd hdi hm
    go_enter Tryd.func40, Tryd.ntmps40
    go_wp2_with (go_at_call 65; refine HC.out.mono ?_; rintro e w' ⟨rfl, rfl⟩)
    go_ret
    exact ⟨rfl, Keep.refl _⟩
  · have hd1 : d = 1 := of_decide_eq_true hv
    subst hd1
    clear hv hd hdi hm
    go_enter Tryd.func40, Tryd.ntmps40
    go_wp2_with (go_at_call 65; refine HC.out.mono ?_; rintro e w' ⟨rfl, rfl⟩)
    go_ret
    exact ⟨rfl, Keep.refl _⟩
theorem make_ownr {w : World} {A : Option Addr} {na ca : Nat} {za : List Sp} (ha : Arg w A na ca za) (hn : na ≤ 20000) :
    Calls Tryd.prog 18 #[.slice A na ca] w fun e w' => ∃ A n c zs, e = .returned (.slice A n c) ∧ Own w' w.heap.size A n c zs ∧ IsSet zs (mem za) ∧ n ≤ 1 + 2 * na ∧ Keep w w' := by
  have HC := Lib.hid (build_any 0 ha (arg_nil w) hn (by decide) (.inl rfl))
  have HOK := Lib.hid ha.ok
  clear ha
  go_enter Tryd.func18, Tryd.ntmps18
  go_wp2_with fail
  go_at_call 30
  refine HC.out.mono ?_
  rintro e w' ⟨A', n', c', zs, rfl, ho, hs, hle, hk⟩
  have HE := Lib.hid (And.intro ho (And.intro (show IsSet zs (mem za) from hs.congr (fun k => (ask0 HOK.out (by simp) k).trans ⟨fun h => h.elim id (fun h => absurd h (mem_nil k)), .inl⟩)) (And.intro hle hk)))
  clear hk ho hs hle
  go_wp2
  go_ret
  exact ⟨A', n', c', zs, rfl, HE.out.1, HE.out.2.1, by have := HE.out.2.2.1; omega, HE.out.2.2.2⟩

set_option maxRecDepth 100000 in
set_option maxHeartbeats 4000000 in
theorem rof_any {w : World} {A : Option Addr} {l c : Nat} {h : Int → Bool} (n : Int) (m K : Nat) (hA : Bg w A l c h) (hl : l ≤ 20000) (hm : m < 4294967296) (hK : (K : Int) = max (min n 16) 0) :
    Calls Tryd.prog 17 #[.int .i64 n, .int .u32 m, .slice A l c] w (OutA w K (1 + 2 * l) (fun i k => decide (i < K) && m.testBit i && h k)) := by
  obtain ⟨i0, hi, hz0, hz1, hz2⟩ := info_parts infoSps
  obtain ⟨F, hF⟩ : ∃ F : Nat → Int → Bool, F = fun i k => decide (i < K) && m.testBit i && h k := ⟨_, rfl⟩
  rw [← hF]
  have hK16 : K ≤ 16 := by omega
  have HA := Lib.hid hA
  have HK := Lib.hid hK
  have HF := Lib.hid hF
  have h0 : RbI w (1 + 2 * l) F 0 (some ⟨w.heap.size, 0, none⟩) 0 (w.alloc (.cells #[] 32)) :=
    ⟨[], rfl, World.ownsRow_made (base := w.heap.size) (e := 32) (size := 1) w #[] 0 (Nat.le_refl _) (Nat.zero_le _) rfl, (Keep.refl w).alloc _, fun i r h => by simp at h⟩
  have H0 := Lib.hid h0
  have HHELD := Lib.hid (fun X => rheld_any n 0 16 X)
  have HM := Lib.hid hm
  rw [← hK] at HHELD
  clear hA h0 hK hF
  go_enter Tryd.func17, Tryd.ntmps17
  go_wp2_with fail
  generalize w.alloc (.cells #[] 32) = W0 at *
  go_loopw [7, 8] (fun ov i wr => ∃ (j : Nat) (A' : Option Addr) (c' : Nat), i = .int .i64 j ∧ ov = .slice A' j c' ∧ j ≤ K ∧ Hid (RbI w (1 + 2 * l) F j A' c' wr)) (fun _ i _ => K - (intOf i).toNat)
  case atStart => exact ⟨0, _, _, rfl, rfl, Nat.zero_le _, H0⟩
  case round =>
    obtain ⟨j, A1, c1, rfl, rfl, hj, HI⟩ := hrel
    clear H0
    by_cases hlt : j < K
    · obtain ⟨rs, q0, q1, q2, q3⟩ := HI.out
      clear HI
      have HR := Lib.hid (And.intro q0 (And.intro q1 (And.intro q2 q3)))
      have HML := Lib.hid (show j + 1 ≤ maxLen by unfold maxLen; omega)
      have hji : (j : Int) < (K : Int) := by omega
      clear q0 q1 q2 q3
      go_wp2_with fail
      go_at_call 39
      refine (HHELD.out _).mono ?_
      rintro e wh ⟨rfl, rfl⟩
      have HOE := Lib.hid (World.ownsRow_made (base := w.heap.size) (e := 37) (size := 2) wr #[] 0 HR.out.2.2.1.size (Nat.zero_le _) rfl)
      have HKE := Lib.hid (show Keep wr (wr.alloc (.cells #[] 37)) from (Keep.refl _).alloc _)
      go_wp2_with fail
      go_at_call 40
      cases hb : m.testBit j
      · refine (rhasm_any m j false _ HM.out (by omega) hb).mono ?_
        rintro e w2 ⟨rfl, hk2⟩
        have hst : StS w.heap.size w2 (some ⟨wr.heap.size, 0, none⟩, 0, 0) (1 + 2 * l) (F j) := by
          have h1 : StS w.heap.size (wr.alloc (.cells #[] 37)) (some ⟨wr.heap.size, 0, none⟩, 0, 0) (1 + 2 * l) (F j) := sts_of_own (zs := []) HOE.out ⟨Rt.nil, fun k => ⟨fun h => absurd h (mem_nil k), fun h => by simp [HF.out, hb] at h⟩, by simp⟩ (Nat.zero_le _)
          exact h1.keep hk2
        have HST := Lib.hid (hst.keep ((Keep.refl w2).alloc (.cells #[.slice (some ⟨wr.heap.size, 0, none⟩) 0 0] 32)))
        have HK2 := Lib.hid ((HKE.out.trans hk2).alloc (.cells #[.slice (some ⟨wr.heap.size, 0, none⟩) 0 0] 32))
        have HOW := Lib.hid (ownsRow_only HR.out.2.1 (Only.of_keep (fun _ => False) HK2.out) (fun _ _ h => h))
        have HSZ := Lib.hid (HR.out.2.2.1.size)
        clear hk2 hst hb
        go_wp2_with (at_builtin; go_must (refine wpList_append_from rfl _ _ 22 rfl w.heap.size 32 i0 (.slice none 0 0) 24 Tryd.underlying22 hi hz0 hz1 hz2 rfl _ j (rs.map SV.v) rfl HOW.out _ (some ⟨w2.heap.size, 0, none⟩) 1 1 [.slice (some ⟨wr.heap.size, 0, none⟩) 0 0] rfl (one_row w2 _) (fun h => by cases h) (fun u hu => by simp at hu; subst hu; rfl) HML.out (by omega) (by have h1 := HK2.out.size; have h2 := HSZ.out; omega) ?_); intro A4 c4 w4 hown4 hgrow4 hat4; have HI4 := Lib.hid (rbI_next (r := (some ⟨wr.heap.size, 0, none⟩, 0, 0)) HR.out.1 HR.out.2.1 HR.out.2.2.1 HR.out.2.2.2 HK2.out HST.out hgrow4 hown4); clear hown4 hgrow4 hat4)
        go_roundw
        case rel => exact ⟨j + 1, _, _, by go_num, rfl, hlt, HI4⟩
        case measure => simp [intOf]; omega
      · refine (rhasm_any m j true _ HM.out (by omega) hb).mono ?_
        rintro e w2 ⟨rfl, hk2⟩
        obtain ⟨za, hza, hfa⟩ := HA.out
        have HZ := Lib.hid (make_ownr (hza.keep ((HR.out.2.2.1.trans HKE.out).trans hk2)) hl)
        have HQ := Lib.hid hfa
        have HK1 := Lib.hid (HKE.out.trans hk2)
        have HB := Lib.hid hb
        clear hk2 hza hfa hb
        go_wp2_with fail
        go_at_call 18
        refine HZ.out.mono ?_
        rintro e w3 ⟨A3, n3, c3, zs, rfl, ho3, hs3, hle3, hk3⟩
        have hst : StS w.heap.size w3 (A3, n3, c3) (1 + 2 * l) (F j) := by
          have h1 : StS w2.heap.size w3 (A3, n3, c3) (1 + 2 * l) (F j) := sts_of_own ho3 (hs3.congr (fun k => by
            rw [← hasB_iff, HQ.out k]
            simp [HF.out, HB.out, hlt])) hle3
          exact h1.mono (HR.out.2.2.1.trans HK1.out).size
        have HST := Lib.hid (hst.keep ((Keep.refl w3).alloc (.cells #[.slice A3 n3 c3] 32)))
        have HK2 := Lib.hid ((HK1.out.trans hk3).alloc (.cells #[.slice A3 n3 c3] 32))
        have HOW := Lib.hid (ownsRow_only HR.out.2.1 (Only.of_keep (fun _ => False) HK2.out) (fun _ _ h => h))
        have HSZ := Lib.hid (HR.out.2.2.1.size)
        clear hk3 hst ho3 hs3 HZ
        go_wp2_with (at_builtin; go_must (refine wpList_append_from rfl _ _ 22 rfl w.heap.size 32 i0 (.slice none 0 0) 24 Tryd.underlying22 hi hz0 hz1 hz2 rfl _ j (rs.map SV.v) rfl HOW.out _ (some ⟨w3.heap.size, 0, none⟩) 1 1 [.slice A3 n3 c3] rfl (one_row w3 _) (fun h => by cases h) (fun u hu => by simp at hu; subst hu; rfl) HML.out (by omega) (by have h1 := HK2.out.size; have h2 := HSZ.out; omega) ?_); intro A4 c4 w4 hown4 hgrow4 hat4; have HI4 := Lib.hid (rbI_next (r := (A3, n3, c3)) HR.out.1 HR.out.2.1 HR.out.2.2.1 HR.out.2.2.2 HK2.out HST.out hgrow4 hown4); clear hown4 hgrow4 hat4)
        go_roundw
        case rel => exact ⟨j + 1, _, _, by go_num, rfl, hlt, HI4⟩
        case measure => simp [intOf]; omega
    · obtain rfl : j = K := by omega
      have hja : ¬ (j : Int) < (j : Int) := by omega
      have HE := Lib.hid (show OutA w j (1 + 2 * l) F (.returned (.slice A1 j c1)) _ by
        obtain ⟨rs, q0, q1, q2, q3⟩ := HI.out
        subst q0
        obtain ⟨A5, c5, e5, h5⟩ := areaS_of_row (base := w.heap.size) (N := 1 + 2 * l) (f := F) q1 (fun i hi k => by rw [HF.out]; simp; omega) q3
        cases e5
        exact ⟨A1, c1, rfl, q2, h5, (own_cap1 q1)⟩)
      clear HI hlt
      go_wp2_with fail
      go_at_call 39
      refine (HHELD.out _).mono ?_
      rintro e wh ⟨rfl, rfl⟩
      go_wp2_with fail
      go_ret
      exact HE.out
end Go.Proofs.YtmdhbbibghpijaaDoor
