/- The document's own functions of layer 7, on: Has, Alike, Empty, Same. -/
import Derived.Test.YtmdhbbibghpijaaDoorAreaRef
namespace Go.Proofs.YtmdhbbibghpijaaDoor
open Go.RowKit

/-- The spans of a set's slice. -/
theorem StS.set {base : Nat} {w : World} {r : SV} {N : Nat} {h : Int → Bool} (g : StS base w r N h) : ∃ zs, Arg w r.1 r.2.1 r.2.2 zs ∧ IsSet zs (fun k => h k = true) ∧ r.2.1 ≤ N := by
  obtain ⟨⟨zs, ha, hr, hq⟩, hm, -⟩ := g
  exact ⟨zs, ha, ⟨hr, fun k => by rw [← hasB_iff, hq k], ha.ok⟩, hm⟩
set_option maxRecDepth 100000 in
set_option maxHeartbeats 4000000 in
theorem alike_t {w : World} {b1 b2 : Nat} {A B : Option Addr} {n ca cb N M : Nat} {f : Nat → Int → Bool} (hA : AreaS b1 w A n N f) (hB : AreaS b2 w B n M f) (hn : n ≤ 1000000) (hN : N ≤ 40000) (hM : M ≤ 40000) :
    Calls Tryd.prog 11 #[.slice A n ca, .slice B n cb] w fun e w' => e = .returned (.bool true) ∧ Keep w w' := by
  have HA := Lib.hid hA
  have HB := Lib.hid hB
  have hni : (n : Int) ≤ 1000000 := by omega
  clear hA hB
  go_enter Tryd.func11, Tryd.ntmps11
  go_wp2_with fail
  go_loopw [5] (fun i wr => ∃ (j : Nat), i = .int .i64 j ∧ j ≤ n ∧ Hid (Keep w wr)) (fun i _ => n - (intOf i).toNat)
  case atStart => exact ⟨0, rfl, Nat.zero_le _, Lib.hid (Keep.refl w)⟩
  case round =>
    obtain ⟨j, rfl, hj, HK⟩ := hrel
    by_cases hlt : j < n
    · have hji : (j : Int) < (n : Int) := by omega
      obtain ⟨b, off, r, e, hb, hc, hs⟩ := (HA.out.keep HK.out).row j hlt
      subst e
      obtain ⟨b', off', r', e, hb', hc', hs'⟩ := (HB.out.keep HK.out).row j hlt
      subst e
      obtain ⟨zs, hz, hset, hl⟩ := hs.set
      obtain ⟨zs', hz', hset', hl'⟩ := hs'.set
      have HQ := Lib.hid (rsame_any r.1 r.2.1 r.2.2 zs r'.1 r'.2.1 r'.2.2 zs' true wr.drew (hz.keep (Keep.refl wr).drew) (hz'.keep (Keep.refl wr).drew) (by omega) (by omega) (by simp [hset.unique hset' (fun _ => Iff.rfl)]))
      have HBOX := Lib.hid (show ∀ X, Keep wr X → X.cell? ⟨b, off + j, none⟩ = some (.slice r.1 r.2.1 r.2.2) ∧ X.cell? ⟨b', off' + j, none⟩ = some (.slice r'.1 r'.2.1 r'.2.2) from fun X hX => ⟨(hX.cell (p := ⟨b, off + j, none⟩) hb).trans hc, (hX.cell (p := ⟨b', off' + j, none⟩) hb').trans hc'⟩)
      clear hb hc hs hb' hc' hs' hz hset hl hz' hset' hl'
      obtain ⟨a1, l1, d1⟩ := r
      obtain ⟨a2, l2, d2⟩ := r'
      dsimp only at HQ HBOX
      go_upto_region 6 with fail
      have hKc := (Keep.refl wr).drew
      refine seq_region (S := fun w' => Keep wr w') [⟨0, 1, 131072⟩, ⟨0, 32, 262144⟩, ⟨3, 393216, 524288⟩, ⟨4, 524288, 1048576⟩, ⟨0, 2, 2097152⟩, ⟨0, 32, 4194304⟩, ⟨48, 6291456, 8388608⟩, ⟨64, 8388608, 16777216⟩, ⟨136, 17825792, 33554432⟩, ⟨256, 33554432, 67108864⟩] [(0, false), (1, false), (2, false), (3, false), (4, false), (5, false), (6, false), (7, false), (8, true), (9, false)] rfl (by kernel_rfl) (by kernel_rfl) (fun _ _ d _ _ h => by cases d <;> exact h) hKc ?_
      simp only [rowsOf, rowAt, gslot, List.map_cons, List.map_nil, List.getElem?_toArray, List.getElem?_cons_zero, List.getElem?_cons_succ]
      repeat (first
        | (refine seq_take (v := ?_) (a' := ?_) (by rfl) ?_ ?_ ?_
           rotate_left 2
           · (intro w hSw; have hcs := HBOX.out w hSw; clear hSw; go_split_ands; go_simp; with_reducible rfl)
           · (simp only [Act.put, List.setIfInBounds_toArray, List.set_cons_zero, List.set_cons_succ]; with_reducible rfl))
        | (refine seq_skip (a' := ?_) hKc (by rfl) ?_ ?_
           rotate_left
           · (simp only [Act.put, List.setIfInBounds_toArray, List.set_cons_zero, List.set_cons_succ]; with_reducible rfl)))
      refine seq_callR (R := fun _ => True) (f := 31) (args := ?_) (v := ?_) (a' := ?_) (by rfl) (by rfl) (by rfl) Tryd.call31 ?_ ?_ ?_ ?_
      rotate_left 3
      · (go_simp; with_reducible rfl)
      · ((with_reducible refine Calls.mono HQ.out ?_)
         rintro e w' ⟨rfl, hk⟩
         refine ⟨?_, hKc.trans hk, trivial⟩
         with_reducible rfl)
      · (simp only [Act.put, List.setIfInBounds_toArray, List.set_cons_zero, List.set_cons_succ]; with_reducible rfl)
      clear hKc
      intro wn hKc _
      repeat (first
        | (refine seq_take (v := ?_) (a' := ?_) (by rfl) ?_ ?_ ?_
           rotate_left 2
           · (intro w hSw; have hcs := HBOX.out w hSw; clear hSw; go_split_ands; go_simp; with_reducible rfl)
           · (simp only [Act.put, List.setIfInBounds_toArray, List.set_cons_zero, List.set_cons_succ]; with_reducible rfl))
        | (refine seq_skip (a' := ?_) hKc (by rfl) ?_ ?_
           rotate_left
           · (simp only [Act.put, List.setIfInBounds_toArray, List.set_cons_zero, List.set_cons_succ]; with_reducible rfl)))
      refine seq_nil ?_
      have HK2 := Lib.hid (HK.out.trans hKc)
      clear hKc HK HQ HBOX
      go_wp2_with fail
      go_roundw
      case rel => exact ⟨j + 1, by go_num, hlt, HK2⟩
      case measure => simp [intOf]; omega
    · obtain rfl : j = n := by omega
      clear hlt
      go_wp2_with fail
      go_ret
      exact ⟨rfl, HK.out⟩
set_option maxRecDepth 100000 in
set_option maxHeartbeats 4000000 in
theorem rempty_any {w : World} {A : Option Addr} {n ca N : Nat} {f : Nat → Int → Bool} (v : Bool) (hA : Area w A n N f) (hn : n ≤ 1000000) (hN : N ≤ 20000) (hv : v = true ↔ ∀ i k, f i k = false) :
    Calls Tryd.prog 23 #[.slice A n ca] w fun e w' => e = .returned (.bool v) ∧ Keep w w' := by
  have HA := Lib.hid hA
  have HV := Lib.hid hv
  have hni : (n : Int) ≤ 1000000 := by omega
  clear hA hv
  go_enter Tryd.func23, Tryd.ntmps23
  go_wp2_with fail
  go_loopw [3] (fun i wr => ∃ (j : Nat), i = .int .i64 j ∧ j ≤ n ∧ Hid (Keep w wr) ∧ Hid (∀ i, i < j → ∀ k, f i k = false)) (fun i _ => n - (intOf i).toNat)
  case atStart => exact ⟨0, rfl, Nat.zero_le _, Lib.hid (Keep.refl w), Lib.hid (fun i h => by omega)⟩
  case round =>
    obtain ⟨j, rfl, hj, HK, HF⟩ := hrel
    by_cases hlt : j < n
    · have hji : (j : Int) < (n : Int) := by omega
      obtain ⟨b, off, a, l, c, e, hb, c0, ⟨zs, hz, hq⟩, hl⟩ := (HA.out.keep HK.out).row j hlt
      subst e
      have HZ := Lib.hid (make_set hz (by omega))
      have HQ := Lib.hid hq
      clear hz hq hb
      go_wp2_with fail
      go_at_call 18
      refine HZ.out.mono ?_
      rintro e w2 ⟨A2, m, c2, ss, rfl, hk2, ha2, hs2, -⟩
      have hnil := isSet_nil hs2
      rw [ha2.len] at hnil
      have HK2 := Lib.hid (HK.out.trans hk2)
      clear ha2 hs2 HZ
      by_cases hm : m = 0
      · have HF2 := Lib.hid (show ∀ i, i < j + 1 → ∀ k, f i k = false from fun i hi k => by
          by_cases hij : i = j
          · subst hij
            have h1 := hnil.1 hm k
            rw [← hasB_iff, HQ.out k] at h1
            simpa using h1
          · exact HF.out i (by omega) k)
        have hmi : ¬ (0 : Int) < (m : Int) := by omega
        subst hm
        clear hnil
        go_wp2_with fail
        go_roundw
        case rel => exact ⟨j + 1, by go_num, hlt, HK2, HF2⟩
        case measure => simp [intOf]; omega
      · have hmi : (0 : Int) < (m : Int) := by omega
        obtain rfl : v = false := by
          cases hv : v with
          | false => rfl
          | true =>
            have h1 := HV.out.1 hv
            exact absurd (hnil.2 (fun k hk => by rw [← hasB_iff, HQ.out k, h1] at hk; cases hk)) hm
        clear hnil
        go_wp2_with fail
        go_ret
        exact ⟨rfl, HK2.out⟩
    · obtain rfl : j = n := by omega
      obtain rfl : v = true := HV.out.2 (fun i k => by
        by_cases hi : i < j
        · exact HF.out i hi k
        · exact HA.out.out i (by omega) k)
      clear hlt
      go_wp2_with fail
      go_ret
      exact ⟨rfl, HK.out⟩
set_option maxRecDepth 100000 in
set_option maxHeartbeats 2000000 in
theorem rhas_c {w : World} {A : Option Addr} {na ca N : Nat} {f : Nat → Int → Bool} (lb k : Int) (hA : Area w A na N f) (hN : N ≤ 20000) (hk : 0 ≤ k ∧ k ≤ 4294967295) :
    Calls Tryd.prog 21 #[.slice A na ca, .agg #[.int .i64 lb, .int .u32 k]] w fun e w' => e = .returned (.bool (fz f lb k)) ∧ Keep w w' := by
  have hb := World.alloc_heap_new w (.cells #[.int .i64 lb, .int .u32 k] 25)
  have hk0 := (Keep.refl w).alloc (.cells #[.int .i64 lb, .int .u32 k] 25)
  have HA := Lib.hid hA
  obtain ⟨k1, k2⟩ := hk
  clear hA
  go_enter Tryd.func21, Tryd.ntmps21
  go_wp2_with fail
  generalize w.alloc (.cells #[.int .i64 lb, .int .u32 k] 25) = W at *
  have hlt : w.heap.size < W.heap.size := (Array.getElem?_eq_some_iff.1 hb).1
  have HBOX := Lib.hid (show ∀ X, Keep W X → X.cell? ⟨w.heap.size, 0, none⟩ = some (.int .i64 lb) ∧ X.cell? ⟨w.heap.size, 1, none⟩ = some (.int .u32 k) from fun X hX => by
    have := (hX.block _ hlt).trans hb
    exact ⟨by simp [World.cell?, this], by simp [World.cell?, this]⟩)
  have HKW := Lib.hid hk0
  have hwk : IntKind.i64.wrap k = k := by rw [IntKind.wrap_i64]; omega
  have hKc := (Keep.refl W).drew
  clear hb hlt hk0
  refine seq_region (S := fun w' => Keep W w') [⟨0, 1, 32⟩, ⟨0, 8, 64⟩, ⟨2, 64, 128⟩, ⟨5, 160, 256⟩, ⟨0, 8, 512⟩, ⟨16, 512, 1024⟩, ⟨32, 1024, 2048⟩, ⟨72, 2304, 4096⟩, ⟨255, 4096, 16⟩] [(0, false), (1, false), (2, false), (4, false), (5, false), (6, false), (3, true), (7, true), (8, false)] rfl (by kernel_rfl) (by kernel_rfl) (fun _ _ d _ _ h => by cases d <;> exact h) hKc ?_
  simp only [rowsOf, rowAt, gslot, List.map_cons, List.map_nil, List.getElem?_toArray, List.getElem?_cons_zero, List.getElem?_cons_succ]
  repeat (first
    | (refine seq_take (v := ?_) (a' := ?_) (by rfl) ?_ ?_ ?_
       rotate_left 2
       · (intro w hSw; have hcs := HBOX.out w hSw; clear hSw; go_split_ands; go_simp; with_reducible rfl)
       · (simp only [Act.put, List.setIfInBounds_toArray, List.set_cons_zero, List.set_cons_succ]; with_reducible rfl))
    | (refine seq_skip (a' := ?_) hKc (by rfl) ?_ ?_
       rotate_left
       · (simp only [Act.put, List.setIfInBounds_toArray, List.set_cons_zero, List.set_cons_succ]; with_reducible rfl)))
  refine sq_callx (R := fun v w' => ∃ a l c, v = .slice a l c ∧ Bg w a l c (fz f lb) ∧ l ≤ N) (f := 16) (args := ?_) (by rfl) (by rfl) (by rfl) Tryd.call16 ?_ ?_ ?_
  rotate_left 1
  · (go_simp; with_reducible rfl)
  · refine (rat_any lb HA.out (HKW.out.trans hKc)).mono ?_
    rintro e w' ⟨a, l, c, rfl, hb, hl, rfl⟩
    exact ⟨_, rfl, hKc, a, l, c, rfl, hb, hl⟩
  rintro v w2 hK2 ⟨a, l, c, rfl, hb, hl⟩
  simp only [Act.put, List.setIfInBounds_toArray, List.set_cons_zero, List.set_cons_succ]
  clear hKc
  have hKc := hK2
  repeat (first
    | (refine seq_take (v := ?_) (a' := ?_) (by rfl) ?_ ?_ ?_
       rotate_left 2
       · (intro w hSw; have hcs := HBOX.out w hSw; clear hSw; go_split_ands; go_simp; with_reducible rfl)
       · (simp only [Act.put, List.setIfInBounds_toArray, List.set_cons_zero, List.set_cons_succ]; with_reducible rfl))
    | (refine seq_skip (a' := ?_) hKc (by rfl) ?_ ?_
       rotate_left
       · (simp only [Act.put, List.setIfInBounds_toArray, List.set_cons_zero, List.set_cons_succ]; with_reducible rfl)))
  refine sq_callx (R := fun v w' => v = .bool (fz f lb k)) (f := 43) (args := ?_) (by rfl) (by rfl) (by rfl) Tryd.call43 ?_ ?_ ?_
  rotate_left 1
  · (go_simp; with_reducible rfl)
  · obtain ⟨zs, hz, hq⟩ := hb.keep (HKW.out.trans hK2)
    refine (rhas_any _ _ _ zs k _ hz (by omega)).mono ?_
    rintro e w' ⟨rfl, rfl⟩
    exact ⟨_, rfl, hK2, by rw [hq k]⟩
  rintro v w3 hK3 rfl
  simp only [Act.put, List.setIfInBounds_toArray, List.set_cons_zero, List.set_cons_succ]
  clear hKc
  have hKc := hK3
  repeat (first
    | (refine seq_take (v := ?_) (a' := ?_) (by rfl) ?_ ?_ ?_
       rotate_left 2
       · (intro w hSw; have hcs := HBOX.out w hSw; clear hSw; go_split_ands; go_simp; with_reducible rfl)
       · (simp only [Act.put, List.setIfInBounds_toArray, List.set_cons_zero, List.set_cons_succ]; with_reducible rfl))
    | (refine seq_skip (a' := ?_) hKc (by rfl) ?_ ?_
       rotate_left
       · (simp only [Act.put, List.setIfInBounds_toArray, List.set_cons_zero, List.set_cons_succ]; with_reducible rfl)))
  refine seq_nil ?_
  have HF := Lib.hid (HKW.out.trans hK3)
  clear hb hl hK2 hK3 hKc
  go_wp2
  go_ret
  exact ⟨rfl, HF.out⟩
/-- One has what the other has not. -/
theorem ask_none {f g : Nat → Int → Bool} (hk : ∀ i k, f i k = true → keyB k = true) : (∀ i k, askF 2 f g i k = false) ↔ ∀ i k, f i k = true → g i k = true := by
  constructor
  · intro h i k hf
    have h1 := h i k
    unfold askF asked at h1
    rw [hk i k hf, hf] at h1
    simpa using h1
  · intro h i k
    have h1 := h i k
    unfold askF asked
    cases hf : f i k <;> cases hg : g i k <;> simp_all
theorem same_iff {f g : Nat → Int → Bool} : (∀ i k, f i k = g i k) ↔ (∀ i k, f i k = true → g i k = true) ∧ ∀ i k, g i k = true → f i k = true := by
  constructor
  · intro h
    exact ⟨fun i k e => by rw [← h i k]; exact e, fun i k e => by rw [h i k]; exact e⟩
  · rintro ⟨a, b⟩ i k
    have a1 := a i k
    have b1 := b i k
    cases hf : f i k <;> cases hg : g i k <;> simp_all
theorem bool_and {v p q : Bool} (h : v = true ↔ p = true ∧ q = true) : v = (p && q) := by
  cases v <;> cases p <;> cases q <;> simp_all
theorem Area.key {w : World} {A : Option Addr} {n N : Nat} {f : Nat → Int → Bool} (h : Area w A n N f) (i : Nat) (k : Int) (hf : f i k = true) : keyB k = true := by
  by_cases hi : i < n
  · obtain ⟨b, off, a, l, c, -, -, -, hg, -⟩ := h.row i hi
    exact hg.key k hf
  · rw [h.out i (by omega) k] at hf; cases hf
set_option maxRecDepth 100000 in
set_option maxHeartbeats 2000000 in
theorem rsamea_any {w : World} {A B : Option Addr} {na ca nb cb N M : Nat} {f g : Nat → Int → Bool} (v : Bool) (hA : Area w A na N f) (hB : Area w B nb M g) (hN : N ≤ 4000) (hM : M ≤ 4000) (hl : max na nb ≤ 1000000) (hv : v = true ↔ ∀ i k, f i k = g i k) :
    Calls Tryd.prog 25 #[.slice A na ca, .slice B nb cb] w fun e w' => e = .returned (.bool v) ∧ Keep w w' := by
  have HA := Lib.hid hA
  have HB := Lib.hid hB
  have HV := Lib.hid hv
  obtain ⟨p, hp⟩ := tells_is (∀ i k, f i k = true → g i k = true)
  have HP := Lib.hid hp
  have hKc := Keep.refl w
  clear hA hB hv hp
  have hq : ∀ q : Bool, (q = true ↔ ∀ i k, g i k = true → f i k = true) → v = (p && q) := by
    intro q hq
    exact bool_and (HV.out.trans (same_iff.trans (and_congr HP.out.iff.symm hq.symm)))
  have HQ := Lib.hid hq
  clear hq
  cases p
  · obtain rfl : v = false := by
      obtain ⟨q, hq⟩ := tells_is (∀ i k, g i k = true → f i k = true)
      exact HQ.out q hq.iff
    go_enter Tryd.func25, Tryd.ntmps25
    go_wp2_with fail
    go_at_call 10
    refine (rbuild_any (max na nb) 2 rfl HA.out HB.out (by omega) (by omega) hl (by decide)).mono ?_
    rintro e w1 ⟨A1, c1, rfl, hk, h1, -⟩
    replace hKc := hKc.trans hk
    clear hk
    have H1 := Lib.hid h1
    clear h1
    go_wp2_with fail
    go_at_call 23
    refine (rempty_any false H1.out.area hl (by omega) (HP.out.iff.trans (ask_none HA.out.key).symm)).mono ?_
    rintro e w2 ⟨rfl, hk⟩
    replace hKc := hKc.trans hk
    clear hk
    go_wp2
    go_ret
    exact ⟨rfl, hKc⟩
  · obtain ⟨q, hq⟩ := tells_is (∀ i k, g i k = true → f i k = true)
    obtain rfl : v = q := by rw [HQ.out q hq.iff]; rfl
    have HW := Lib.hid hq
    clear hq
    go_enter Tryd.func25, Tryd.ntmps25
    go_wp2_with fail
    go_at_call 10
    refine (rbuild_any (max na nb) 2 rfl HA.out HB.out (by omega) (by omega) hl (by decide)).mono ?_
    rintro e w1 ⟨A1, c1, rfl, hk, h1, -⟩
    replace hKc := hKc.trans hk
    clear hk
    have H1 := Lib.hid h1
    clear h1
    go_wp2_with fail
    go_at_call 23
    refine (rempty_any true H1.out.area hl (by omega) (HP.out.iff.trans (ask_none HA.out.key).symm)).mono ?_
    rintro e w2 ⟨rfl, hk⟩
    replace hKc := hKc.trans hk
    clear hk H1
    go_wp2_with fail
    go_at_call 10
    refine (rbuild_any (max na nb) 2 (by omega) (HB.out.keep hKc) (HA.out.keep hKc) (by omega) (by omega) hl (by decide)).mono ?_
    rintro e w3 ⟨A3, c3, rfl, hk, h3, -⟩
    replace hKc := hKc.trans hk
    clear hk
    have H3 := Lib.hid h3
    clear h3
    go_wp2_with fail
    go_at_call 23
    refine (rempty_any v H3.out.area hl (by omega) (HW.out.iff.trans (ask_none HB.out.key).symm)).mono ?_
    rintro e w4 ⟨rfl, hk⟩
    replace hKc := hKc.trans hk
    clear hk
    go_wp2
    go_ret
    exact ⟨rfl, hKc⟩
end Go.Proofs.YtmdhbbibghpijaaDoor
