/- slices.Clone and DeleteFunc of spans. -/
import Derived.Test.YtmdhbbibghpijaaDoorIvlFn2
import Derived.Lib.EndianMore
namespace Go.Proofs.YtmdhbbibghpijaaDoor
open Go.RowKit

/-- The cells of spans. -/
abbrev spc (zs : List Sp) : List Value := prc (fun s : Sp => Value.int .u32 s.lo) (fun s : Sp => Value.int .u32 s.hi) zs
/-- A row of spans of the call's own. -/
abbrev Own (w : World) (base : Nat) (A : Option Addr) (n c : Nat) (zs : List Sp) : Prop := w.ownsRow base 37 2 (.slice A n c) n (spc zs)

theorem clone_sp (A : Option Addr) (n c : Nat) (zs : List Sp) (w : World) (h : SpS w w.heap.size A n zs) (hc : A = none → c = 0) (hn : n ≤ 1000000) :
    Calls Tryd.prog 38 #[.slice A n c] w fun e w' => ∃ A' c', e = .returned (.slice A' n c') ∧ Own w' w.heap.size A' n c' zs ∧ Keep w w' := by
  have q : ∀ (w : World) (a : Option Addr) (n c n' c' : Nat), (binOp .eql 32 (.slice a n c) (.slice none n' c')).run Tryd.prog w = .ok (.bool a.isNone) w := fun w a n c n' c' => Lib.run_eql_slice_nil w _ _ a n c n' c' Tryd.underlying32
  rcases A with _ | ad
  · have hz : zs = [] := by
      cases zs with
      | nil => rfl
      | cons y ys => obtain ⟨_, _, e, _⟩ := h.get 0 y rfl; cases e
    subst hz
    obtain rfl : n = 0 := by rw [← h.len]; rfl
    clear h hc
    go_enter Tryd.func38, Tryd.ntmps38
    go_wp2
    go_ret
    exact ⟨none, 0, rfl, ⟨by simp [prc], .inl ⟨rfl, rfl⟩⟩, Keep.refl _⟩
  · obtain ⟨i0, hi, hz0, hz1, hz2⟩ := info_parts infoSp
    have hml : 0 + n ≤ maxLen := by unfold maxLen; omega
    have oR := World.ownsRow_made (base := w.heap.size) (e := 37) (size := 2) w #[] 0 (Nat.le_refl _) (by simp) rfl
    have HP := Lib.hid (h.up ((Keep.refl w).alloc (.cells #[] 37)))
    clear h hc
    go_enter Tryd.func38, Tryd.ntmps38
    go_wp2_with (first
      | (at_builtin; refine wpList_append_prs rfl _ _ 32 rfl w.heap.size 37 i0 (.agg #[.int .u32 0, .int .u32 0]) 8 Tryd.underlying32 hi hz0 hz1 hz2 rfl spOne _ 0 [] rfl oR _ _ n c zs rfl HP.out (fun h => by cases h) hml (by omega) (by simp) ?_; intro A' c' w1 hown hgrow _))
    go_ret
    rw [List.nil_append, Nat.zero_add] at hown
    refine ⟨_, _, rfl, ?_, ?_⟩
    · simpa using hown
    · refine Below.trans ((Keep.refl w).alloc _) ((Only.grown (S := fun k => k = w.heap.size) (Only.refl _ _) hgrow (fun k _ e => ?_)).below (by simp) (fun k e => Nat.le_of_eq e.symm))
      exact (Option.some.inj e).symm

theorem setCell_block {w : World} {g : Nat} {cur : Array Value} {t : TypeId} (h : w.heap[g]? = some (.cells cur t (0, 0))) (o : Nat) (v : Value) : (w.setCell ⟨g, o, none⟩ v).heap[g]? = some (.cells (cur.setIfInBounds o v) t (0, 0)) := by
  obtain ⟨hlt, hg⟩ := Array.getElem?_eq_some_iff.1 h
  show (w.heap.modify g _)[g]? = _
  rw [Array.getElem?_eq_getElem (by rw [Array.size_modify]; exact hlt), Array.getElem_modify_self, hg]
  simp
theorem setCells_block {g : Nat} {t : TypeId} : ∀ (vs : List Value) (o : Nat) (w : World) (cur : Array Value), w.heap[g]? = some (.cells cur t (0, 0)) → ∃ cur', (w.setCells g o vs).heap[g]? = some (.cells cur' t (0, 0)) ∧ cur'.size = cur.size ∧ ∀ k, k < o → cur'[k]? = cur[k]?
  | [], _, _, cur, h => ⟨cur, h, rfl, fun _ _ => rfl⟩
  | v :: vs, o, w, cur, h => by
    obtain ⟨cur', h1, h2, h3⟩ := setCells_block vs (o + 1) _ _ (setCell_block h o v)
    refine ⟨cur', h1, by simpa using h2, fun k hk => ?_⟩
    rw [h3 k (by omega), Array.getElem?_setIfInBounds_ne (by omega)]
theorem own_of_cells {w : World} {g cap : Nat} {cur : Array Value} {zs : List Sp} (h : w.heap[g]? = some (.cells cur 37 (0, 0))) (hs : cur.size = cap * 2) (hc : zs.length ≤ cap) (hm : cap ≤ maxLen)
    (hz : ∀ (k : Nat) (z : Sp), zs[k]? = some z → cur[k * 2]? = some (.int .u32 z.lo) ∧ cur[k * 2 + 1]? = some (.int .u32 z.hi)) : Own w g (some ⟨g, 0, none⟩) zs.length cap zs := by
  refine ⟨prc_length _, .inr ⟨g, cap, cur, rfl, Nat.le_refl _, h, hc, hm, hs, ?_⟩⟩
  apply List.ext_getElem?
  intro k
  rw [List.getElem?_take]
  by_cases hk : k < zs.length * 2
  · rw [if_pos hk, Array.getElem?_toList]
    have hz2 : zs[k / 2]? = some zs[k / 2] := List.getElem?_eq_getElem (by omega)
    obtain ⟨p0, p1⟩ := prc_get (f := fun s : Sp => Value.int .u32 s.lo) (g := fun s : Sp => Value.int .u32 s.hi) zs _ _ hz2
    obtain ⟨q0, q1⟩ := hz _ _ hz2
    rcases Nat.mod_two_eq_zero_or_one k with h2 | h2
    · rw [show k / 2 * 2 = k from by omega] at p0 q0
      rw [p0, q0]
    · rw [show k / 2 * 2 + 1 = k from by omega] at p1 q1
      rw [p1, q1]
  · rw [if_neg hk, List.getElem?_eq_none]
    rw [prc_length]
    omega
/-- What lies in a block while spans are taken out: the first i are those that stay of the first j; from j on all is as it was. -/
structure Mid (w : World) (g cap : Nat) (zs : List Sp) (i j : Nat) : Prop where
  le : i < j
  num : ((zs.take j).filter fun s => !emp s).length = i
  blk : ∃ cur, w.heap[g]? = some (.cells cur 37 (0, 0)) ∧ cur.size = cap * 2 ∧
    (∀ (k : Nat) (z : Sp), ((zs.take j).filter fun s => !emp s)[k]? = some z → cur[k * 2]? = some (.int .u32 z.lo) ∧ cur[k * 2 + 1]? = some (.int .u32 z.hi)) ∧
    ∀ (k : Nat) (z : Sp), j ≤ k → zs[k]? = some z → cur[k * 2]? = some (.int .u32 z.lo) ∧ cur[k * 2 + 1]? = some (.int .u32 z.hi)
theorem take_filter {zs : List Sp} {j : Nat} {x : Sp} (h : zs[j]? = some x) : (zs.take (j + 1)).filter (fun s => !emp s) = (zs.take j).filter (fun s => !emp s) ++ (if emp x then [] else [x]) := by
  have hj := (List.getElem?_eq_some_iff.1 h).1
  rw [List.take_succ_eq_append_getElem hj, List.filter_append, (List.getElem?_eq_some_iff.1 h).2]
  cases he : emp x <;> simp [he]
theorem run_clear_sp (w : World) (ty : TypeId) (b o n c : Nat) (hn : 0 < n) (hc : ∀ j, j < n * 2 → (w.cell? ⟨b, o + j, none⟩).isSome = true) (hf : ∀ j, j < n * 2 → w.frozen? ⟨b, o + j, none⟩ = false) :
    ∃ vs, (Builtin.clear_ #[32] ty #[.slice (some ⟨b, o, none⟩) n c]).run Tryd.prog w = .ok (.tuple #[]) (w.setCells b o vs) := by
  have hlen : (Builtin.zeroCells #[.int .u32 0, .int .u32 0] n).toList.length = n * 2 := by simp [Builtin.zeroCells]
  have hst := run_storeCells_cells (P := Tryd.prog) b o (Builtin.zeroCells #[.int .u32 0, .int .u32 0] n).toList 0 w (by rw [hlen]; simpa using hc) (by rw [hlen]; simpa using hf) (by
    intro v hv
    simp [Builtin.zeroCells] at hv
    obtain ⟨i, hi, rfl⟩ := hv
    rcases Nat.mod_two_eq_zero_or_one i with h | h <;> simp [h] <;> rfl)
  simp only [Nat.add_zero] at hst
  obtain ⟨m, rfl⟩ : ∃ m, n = m + 1 := ⟨n - 1, by omega⟩
  refine ⟨(Builtin.zeroCells #[.int .u32 0, .int .u32 0] (m + 1)).toList, ?_⟩
  simp [Builtin.clear_, run_underlying Tryd.underlying32, Value.cells, hst]

set_option maxRecDepth 100000 in
set_option maxHeartbeats 4000000 in
theorem del_core (g n cap : Nat) (zs : List Sp) (i0 : Nat) (w : World) (h : Own w g (some ⟨g, 0, none⟩) n cap zs) (hn : n ≤ 1000000) (hidx : idx emp zs = (i0 : Int)) (hi0 : i0 < n) (hfirst : ∀ k z, k < i0 → zs[k]? = some z → emp z = false) (hat : ∀ z, zs[i0]? = some z → emp z = true) :
    Calls Tryd.prog 50 #[.slice (some ⟨g, 0, none⟩) n cap, .func (.func 51) #[] #[]] w fun e w' => e = .returned (.slice (some ⟨g, 0, none⟩) (zs.filter fun s => !emp s).length cap) ∧ Own w' g (some ⟨g, 0, none⟩) (zs.filter fun s => !emp s).length cap (zs.filter fun s => !emp s) ∧ Below g w w' := by
  obtain ⟨A1, c1, e1, hP⟩ := Prs.of_row h
  cases e1
  have hlen := hP.len
  obtain ⟨hcap, hcm, cur0, hb0, hsz0, hz0⟩ : n ≤ cap ∧ cap ≤ maxLen ∧ ∃ cur, w.heap[g]? = some (.cells cur 37 (0, 0)) ∧ cur.size = cap * 2 ∧ ∀ (k : Nat) (z : Sp), zs[k]? = some z → cur[k * 2]? = some (.int .u32 z.lo) ∧ cur[k * 2 + 1]? = some (.int .u32 z.hi) := by
    rcases h.2 with ⟨h1, _⟩ | ⟨g', cap', cur, e, _, hblk, h1, h2, h3, h4⟩
    · cases h1
    · cases e
      refine ⟨h1, h2, cur, hblk, h3, fun k z hk => ?_⟩
      have hkl := (List.getElem?_eq_some_iff.1 hk).1
      obtain ⟨p0, p1⟩ := prc_get (f := fun s : Sp => Value.int .u32 s.lo) (g := fun s : Sp => Value.int .u32 s.hi) zs k z hk
      have h4' : cur.toList.take (n * 2) = spc zs := h4
      have e0 : (spc zs)[k * 2]? = cur[k * 2]? := by rw [← h4', List.getElem?_take, if_pos (by omega), Array.getElem?_toList]
      have e1 : (spc zs)[k * 2 + 1]? = cur[k * 2 + 1]? := by rw [← h4', List.getElem?_take, if_pos (by omega), Array.getElem?_toList]
      exact ⟨e0 ▸ p0, e1 ▸ p1⟩
  have HC := Lib.hid (index_empty (some ⟨g, 0, none⟩) n cap zs w hP hn)
  have hne : ((i0 : Int) == -1) = false := by rw [beq_eq_false_iff_ne]; omega
  have hwi : IntKind.i64.wrap ((i0 : Int) + 1) = (i0 : Int) + 1 := by rw [IntKind.wrap_i64]; omega
  have hstart : Mid w g cap zs i0 (i0 + 1) := by
    have e1 : (zs.take i0).filter (fun s => !emp s) = zs.take i0 := by
      rw [List.filter_eq_self]
      intro z hz
      obtain ⟨k, hk⟩ := List.getElem?_of_mem hz
      rw [List.getElem?_take] at hk
      split at hk
      · rename_i hki
        simp [hfirst k z hki hk]
      · cases hk
    obtain ⟨x, hx⟩ : ∃ x, zs[i0]? = some x := ⟨_, List.getElem?_eq_getElem (by omega)⟩
    have e2 : (zs.take (i0 + 1)).filter (fun s => !emp s) = zs.take i0 := by rw [take_filter hx, hat x hx, e1]; simp
    refine ⟨by omega, by rw [e2]; simp; omega, cur0, hb0, hsz0, fun k z hk => ?_, fun k z _ hk => hz0 k z hk⟩
    rw [e2, List.getElem?_take] at hk
    split at hk
    · exact hz0 k z hk
    · cases hk
  have HST := Lib.hid hstart
  have HL := Lib.hid hlen
  have hgw : g < w.heap.size := (Array.getElem?_eq_some_iff.1 hb0).1
  have hi1 : (i0 : Int) + 1 ≤ (n : Int) := by omega
  clear h hP hb0 hz0 hstart hfirst hat hlen hsz0
  go_enter Tryd.func50, Tryd.ntmps50
  go_wp2_with (go_at_call 68; refine HC.out.mono ?_; rintro e w1 ⟨rfl, hk1⟩; rw [hidx])
  go_loopw [5, 6] (fun s i wr => ∃ (p j : Nat), j ≤ n ∧ i = .int .i64 j ∧ s = .int .i64 p ∧ Mid wr g cap zs p j ∧ Below g w wr) (fun s i _ => n - (intOf i).toNat)
  case atStart =>
    refine ⟨i0, i0 + 1, by omega, by go_num, rfl, ?_, hk1.mono (Nat.le_of_lt hgw)⟩
    obtain ⟨h1, h2, cur, h3, h4⟩ := HST.out
    exact ⟨h1, h2, cur, (hk1.block g hgw).trans h3, h4⟩
  case round =>
    obtain ⟨p, j, hj, rfl, rfl, hm, hB⟩ := hrel
    obtain ⟨hle, hnum, cur, hblk, hsz, htake, hrest⟩ := hm
    have HNUM := Lib.hid hnum
    have HTK := Lib.hid htake
    have HR := Lib.hid hrest
    have hg : g < wr.heap.size := (Array.getElem?_eq_some_iff.1 hblk).1
    have HBLK := Lib.hid hblk
    clear hnum htake
    by_cases hlt : j < n
    · have hlj : j < zs.length := by rw [HL.out]; exact hlt
      obtain ⟨x, hx⟩ : ∃ x, zs[j]? = some x := ⟨_, List.getElem?_eq_getElem hlj⟩
      have HFS := Lib.hid (take_filter hx)
      obtain ⟨r0, r1⟩ := hrest j x (Nat.le_refl _) hx
      have c0 : wr.cell? ⟨g, j * 2, none⟩ = some (.int .u32 x.lo) := by simp [World.cell?, hblk, r0]
      have c1 : wr.cell? ⟨g, j * 2 + 1, none⟩ = some (.int .u32 x.hi) := by simp [World.cell?, hblk, r1]
      have hjn : (j : Int) < (n : Int) := by omega
      have hpn : (p : Int) < (n : Int) := by omega
      have HXA := Lib.hid (SpAt.new wr x)
      clear hrest hx r0 r1 hblk hlj
      cases he : emp x
      · go_wp2_with fail
        go_at_call 51
        refine (empty_is x false _ he).mono ?_
        rintro e w2 ⟨rfl, hk2⟩
        obtain ⟨a0, a1⟩ := (HXA.out.keep hk2).cells
        have hkk : Keep wr w2 := ((Keep.refl wr).alloc _).trans hk2
        have hb2 : w2.heap[g]? = some (.cells cur 37 (0, 0)) := (hkk.block g hg).trans HBLK.out
        have p0 : p * 2 < cur.size := by omega
        have p1 : p * 2 + 1 < cur.size := by omega
        have s0 : w2.cell? ⟨g, p * 2, none⟩ = some cur[p * 2] := by simp [World.cell?, hb2, p0]
        have s1 : w2.cell? ⟨g, p * 2 + 1, none⟩ = some cur[p * 2 + 1] := by simp [World.cell?, hb2, p1]
        have z0 : w2.frozen? ⟨g, p * 2, none⟩ = false := by simp [World.frozen?, hb2]
        have z1 : w2.frozen? ⟨g, p * 2 + 1, none⟩ = false := by simp [World.frozen?, hb2]
        have HB2 := Lib.hid hb2
        clear hb2
        go_wp2_with fail
        go_roundw
        case rel =>
          have hfs := HFS.out
          rw [he] at hfs
          refine ⟨p + 1, j + 1, hlt, by go_num, by go_num, ⟨by omega, by rw [hfs]; simp [HNUM.out], _, setCell_block (setCell_block HB2.out _ _) _ _, by simp; omega, fun k z hk => ?_, fun k z hjk hk => ?_⟩, ?_⟩
          · rw [hfs] at hk
            have hpl := HNUM.out
            rcases Nat.lt_or_ge k p with hkp | hkp
            · rw [List.getElem?_append_left (by omega)] at hk
              obtain ⟨q0, q1⟩ := HTK.out k z hk
              constructor
              · rw [Array.getElem?_setIfInBounds_ne (by omega), Array.getElem?_setIfInBounds_ne (by omega)]; exact q0
              · rw [Array.getElem?_setIfInBounds_ne (by omega), Array.getElem?_setIfInBounds_ne (by omega)]; exact q1
            · rw [List.getElem?_append_right (by omega), hpl] at hk
              have hk0 : k - p = 0 := by
                have := (List.getElem?_eq_some_iff.1 hk).1
                simp at this
                omega
              rw [hk0] at hk
              simp at hk
              subst hk
              obtain rfl : k = p := by omega
              constructor
              · rw [Array.getElem?_setIfInBounds_ne (by omega)]
                simp [p0]
              · simp [p1]
          · obtain ⟨q0, q1⟩ := HR.out k z (by omega) hk
            constructor
            · rw [Array.getElem?_setIfInBounds_ne (by omega), Array.getElem?_setIfInBounds_ne (by omega)]; exact q0
            · rw [Array.getElem?_setIfInBounds_ne (by omega), Array.getElem?_setIfInBounds_ne (by omega)]; exact q1
          · exact ((hB.trans (hkk.mono (Nat.le_of_lt hg))).setCell (p := ⟨g, p * 2, none⟩) (by simp) _).setCell (p := ⟨g, p * 2 + 1, none⟩) (by simp) _
        case measure => simp [intOf]; omega
      · go_wp2_with fail
        go_at_call 51
        refine (empty_is x true _ he).mono ?_
        rintro e w2 ⟨rfl, hk2⟩
        have hkk : Keep wr w2 := ((Keep.refl wr).alloc _).trans hk2
        go_wp2_with fail
        go_roundw
        case rel =>
          have hfs := HFS.out
          rw [he] at hfs
          simp at hfs
          refine ⟨p, j + 1, hlt, by go_num, rfl, ⟨by omega, by rw [hfs]; exact HNUM.out, cur, (hkk.block g hg).trans HBLK.out, hsz, fun k z hk => HTK.out k z (by rw [← hfs]; exact hk), fun k z hjk hk => HR.out k z (by omega) hk⟩, hB.trans (hkk.mono (Nat.le_of_lt hg))⟩
        case measure => simp [intOf]; omega
    · obtain rfl : j = n := by omega
      have hfull : zs.take j = zs := List.take_of_length_le (by rw [HL.out]; exact Nat.le_refl _)
      have HF := Lib.hid hfull
      have hpc : (p : Int) < (cap : Int) := by omega
      have hpj : (p : Int) ≤ (j : Int) := by omega
      have hpc2 : p < cap := by omega
      have hne2 : ¬ cap = p := by omega
      have hcellS : ∀ q, q < (j - p) * 2 → (wr.cell? ⟨g, p * 2 + q, none⟩).isSome = true := fun q hq => by
        have : p * 2 + q < cur.size := by omega
        simp [World.cell?, HBLK.out, this]
      have hfrz : ∀ q, q < (j - p) * 2 → wr.frozen? ⟨g, p * 2 + q, none⟩ = false := fun q _ => by simp [World.frozen?, HBLK.out]
      obtain ⟨vs, hcl⟩ := run_clear_sp wr 0 g (p * 2) (j - p) (cap - p) (by omega) hcellS hfrz
      have HS := Lib.hid (setCells_block vs (p * 2) wr cur HBLK.out)
      have HBS := Lib.hid (Lib.below_setCells_w (Nat.le_refl g) vs (p * 2) wr)
      clear hrest hfull hcellS hfrz hblk
      generalize wr.setCells g (p * 2) vs = W2 at hcl HS HBS
      go_wp2_with fail
      go_ret
      have hnum := HNUM.out
      rw [HF.out] at hnum
      obtain ⟨cur', h1, h2, h3⟩ := HS.out
      have hown := own_of_cells (zs := zs.filter fun s => !emp s) h1 (by omega) (by omega) hcm (fun k z hk => by
        have hkl := (List.getElem?_eq_some_iff.1 hk).1
        obtain ⟨q0, q1⟩ := HTK.out k z (by rw [HF.out]; exact hk)
        rw [h3 _ (by omega), h3 _ (by omega)]
        exact ⟨q0, q1⟩)
      refine ⟨by rw [hnum]; rfl, hown, hB.trans HBS.out⟩

/-- slices.DeleteFunc of what is empty, on a row of one's own. -/
theorem del_any (A : Option Addr) (n c : Nat) (zs : List Sp) (w : World) (base : Nat) (h : Own w base A n c zs) (hn : n ≤ 1000000) (hbw : base ≤ w.heap.size) :
    Calls Tryd.prog 50 #[.slice A n c, .func (.func 51) #[] #[]] w fun e w' => ∃ c', e = .returned (.slice A (zs.filter fun s => !emp s).length c') ∧ Own w' base A (zs.filter fun s => !emp s).length c' (zs.filter fun s => !emp s) ∧ Below base w w' := by
  have hP : SpS w w.heap.size A n zs := by
    obtain ⟨_, _, e1, hP⟩ := Prs.of_row h
    cases e1
    exact hP
  have hlen := hP.len
  cases hf : zs.findIdx? emp with
  | none =>
    have hall : ∀ z ∈ zs, emp z = false := by
      rw [List.findIdx?_eq_none_iff] at hf
      exact hf
    have hfil : (zs.filter fun s => !emp s) = zs := by
      rw [List.filter_eq_self]
      intro z hz
      simp [hall z hz]
    have hidx : idx emp zs = -1 := by unfold idx; rw [hf]
    have HC := Lib.hid (index_empty A n c zs w hP hn)
    have HO := Lib.hid h
    have HF := Lib.hid hfil
    clear h hP hall hfil
    go_enter Tryd.func50, Tryd.ntmps50
    go_wp2_with (go_at_call 68; refine HC.out.mono ?_; rintro e w1 ⟨rfl, hk1⟩; rw [hidx])
    go_ret
    rw [HF.out, hlen]
    refine ⟨c, rfl, ?_, ?_⟩
    · exact ownsRow_only HO.out (Only.of_keep (fun _ => False) hk1) (fun _ _ h => h)
    · exact hk1.mono hbw
  | some i =>
    rw [List.findIdx?_eq_some_iff_getElem] at hf
    obtain ⟨hi, hp, hno⟩ := hf
    have hx : zs[i]? = some zs[i] := List.getElem?_eq_getElem hi
    have hfirst : ∀ k z, k < i → zs[k]? = some z → emp z = false := fun k z hk hz => by
      have := hno k hk
      rw [(List.getElem?_eq_some_iff.1 hz).2] at this
      simpa using this
    have hidx : idx emp zs = (i : Int) := idx_at hx hp hfirst
    rcases h.2 with ⟨h1, h0⟩ | ⟨g, cap, cur, h1, h2, h3, h4⟩
    · omega
    · cases h1
      have hown : Own w g (some ⟨g, 0, none⟩) n c zs := ⟨h.1, .inr ⟨g, c, cur, rfl, Nat.le_refl _, h3, h4⟩⟩
      refine (del_core g n c zs i w hown hn hidx (by omega) hfirst (fun z hz => by rw [hx] at hz; cases hz; exact hp)).mono ?_
      rintro e w' ⟨rfl, ho, hb⟩
      exact ⟨c, rfl, ownsRow_le ho h2, hb.mono h2⟩
end Go.Proofs.YtmdhbbibghpijaaDoor
