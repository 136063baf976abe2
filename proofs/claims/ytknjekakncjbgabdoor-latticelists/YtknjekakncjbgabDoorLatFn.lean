/- lattice.New and what it calls; Index, At, Len. -/
import Derived.Test.YtknjekakncjbgabDoorLatKey
import Derived.Test.YtknjekakncjbgabDoorPair
import Derived.Test.YtknjekakncjbgabDoorSeq
import Derived.OwnWalk
namespace Go.Proofs.YtknjekakncjbgabDoor
open Go.RowKit

/-- A slice of labels. -/
abbrev LbS (w : World) (B : Nat) (A : Option Addr) (n : Nat) (ls : List Lb) : Prop := Prs (fun l : Lb => Value.int .u8 l.lv) (fun l : Lb => Value.int .u16 l.ct) w B A n ls
theorem LbS.cells {w : World} {B : Nat} {A : Option Addr} {n : Nat} {ls : List Lb} (h : LbS w B A n ls) (j : Nat) (z : Lb) (hj : ls[j]? = some z) :
    ∃ b off, A = some ⟨b, off, none⟩ ∧ b < B ∧ w.cell? ⟨b, off + j * 2, none⟩ = some (.int .u8 z.lv) ∧ w.cell? ⟨b, off + j * 2 + 1, none⟩ = some (.int .u16 z.ct) := h.get j z hj
theorem lbOne : ∀ z : Lb, (Value.int .u8 z.lv).oneCell' = true ∧ (Value.int .u16 z.ct).oneCell' = true := fun _ => ⟨rfl, rfl⟩
theorem infoLb : (Tryd.prog.info? 25).map (fun i => (i.zero, i.size, i.bytes)) = some (some (.agg #[.int .u8 0, .int .u16 0]), 2, 4) := by kernel_rfl

/-- The map of the labels ls is block m. -/
abbrev LbM (w : World) (m n : Nat) (ls : List Lb) : Prop := w.ownsMap Tryd.prog 25 (plainElem (H := Unit) Tryd.prog 3) m n (dmp ls)

set_option maxHeartbeats 1000000 in
theorem add_any (m : Nat) (ls : List Lb) (x : Lb) (w : World) (ho : LbM w m ls.length ls) (hl : ∀ y ∈ ls, y.ok) (hn : ls.Nodup) (hx : x.ok) (h16 : ls.length ≤ 16) :
    Calls Tryd.prog 24 #[.map (some m), .agg #[.int .u8 x.lv, .int .u16 x.ct]] w fun e w' =>
      (hasL ls x = true ∧ e = .returned (.bool false) ∧ Keep w w') ∨ (hasL ls x = false ∧ e = .returned (.bool true) ∧ LbM w' m (ls.length + 1) (ls ++ [x]) ∧ Only (fun k => k = m) w w') := by
  have hlt := ho.lt
  have HS := Lib.hid (dmp_size hl hn)
  have HM := Lib.hid ho
  have hh := dmp_has hl hx
  have hml : ls.length < maxLen := by unfold maxLen; omega
  have wfl : (Lit.int .i64 (ls.length : Int)).wf = true := by
    have e1 : IntKind.i64.min = -9223372036854775808 := by decide
    have e2 : IntKind.i64.max = 9223372036854775807 := by decide
    simp [Lit.wf, e1, e2]; omega
  have HV := Lib.hid (plainElem_int (H := Unit) Tryd.underlying3 wfl)
  have HSN := Lib.hid (dmp_snoc ls x)
  clear wfl
  cases hb : hasL ls x
  · rw [hb] at hh
    go_enter Tryd.func24, Tryd.ntmps24
    go_wp2_with (first
      | (at_lookup; refine wpList_lookup_own_ok_int _ rfl _ _ 52 rfl 25 3 .i64 lbKeyed Tryd.underlying52 Tryd.underlying3 (zeroInt _) m _ (dmp ls) rfl (HM.out.alloc _) _ _ rfl (keyOf_lb hx) ?_; intro c hat hwc; clear hat hwc; rw [hh])
      | (at_len; refine wpList_len_own _ rfl _ 52 rfl 25 3 Tryd.underlying52 _ m _ (dmp ls) rfl (HM.out.alloc _) ?_; rw [HS.out])
      | (at_mapUpdate; refine wpList_mapUpdate_in _ rfl _ _ _ 52 rfl 25 3 lbKeyed Tryd.underlying52 _ m _ (dmp ls) rfl (HM.out.alloc _) hml _ _ _ rfl rfl (keyOf_lb hx) _ _ HV.out ?_; intro w1 hown1 hturn1))
    go_ret
    refine .inr ⟨trivial, rfl, ?_, ?_⟩
    · rw [← HSN.out] at hown1
      exact hown1
    · exact ((Only.refl _ w).alloc _).grown hturn1.grown (fun k _ e => (Option.some.inj e).symm)
  · rw [hb] at hh
    go_enter Tryd.func24, Tryd.ntmps24
    go_wp2_with (first
      | (at_lookup; refine wpList_lookup_own_ok_int _ rfl _ _ 52 rfl 25 3 .i64 lbKeyed Tryd.underlying52 Tryd.underlying3 (zeroInt _) m _ (dmp ls) rfl (HM.out.alloc _) _ _ rfl (keyOf_lb hx) ?_; intro c hat hwc; clear hat hwc; rw [hh]))
    go_ret
    exact .inl ⟨trivial, rfl, (Keep.refl w).alloc _⟩

theorem add_no (m : Nat) (ls : List Lb) (x : Lb) (w : World) (ho : LbM w m ls.length ls) (hl : ∀ y ∈ ls, y.ok) (hn : ls.Nodup) (hx : x.ok) (h16 : ls.length ≤ 16) (h : hasL ls x = true) :
    Calls Tryd.prog 24 #[.map (some m), .agg #[.int .u8 x.lv, .int .u16 x.ct]] w fun e w' => e = .returned (.bool false) ∧ Keep w w' := by
  refine (add_any m ls x w ho hl hn hx h16).mono ?_
  rintro e w' (⟨_, h1, h2⟩ | ⟨h0, _⟩)
  · exact ⟨h1, h2⟩
  · rw [h] at h0; cases h0
theorem add_yes (m : Nat) (ls : List Lb) (x : Lb) (w : World) (ho : LbM w m ls.length ls) (hl : ∀ y ∈ ls, y.ok) (hn : ls.Nodup) (hx : x.ok) (h16 : ls.length ≤ 16) (h : hasL ls x = false) :
    Calls Tryd.prog 24 #[.map (some m), .agg #[.int .u8 x.lv, .int .u16 x.ct]] w fun e w' => e = .returned (.bool true) ∧ LbM w' m (ls.length + 1) (ls ++ [x]) ∧ Only (fun k => k = m) w w' := by
  refine (add_any m ls x w ho hl hn hx h16).mono ?_
  rintro e w' (⟨h0, _⟩ | ⟨_, h1, h2⟩)
  · rw [h] at h0; cases h0
  · exact ⟨h1, h2⟩
theorem LbM.keep {w w' : World} {m n : Nat} {ls : List Lb} (h : LbM w m n ls) (hk : Keep w w') : LbM w' m n ls := by
  obtain ⟨es, clock, hb, r⟩ := h
  exact ⟨es, clock, (hk.block m (Array.getElem?_eq_some_iff.1 hb).1).trans hb, r⟩

/-- slices.Clone of labels that are some: a row of one's own. -/
theorem clone_lb (A : Option Addr) (n c : Nat) (ls : List Lb) (w : World) (h : LbS w w.heap.size A n ls) (hn : 1 ≤ n) (h16 : n ≤ 100) :
    Calls Tryd.prog 25 #[.slice A n c] w fun e w' => ∃ A' c', e = .returned (.slice A' n c') ∧ w'.ownsRow w.heap.size 25 2 (.slice A' n c') n (prc (fun l : Lb => Value.int .u8 l.lv) (fun l : Lb => Value.int .u16 l.ct) ls) ∧ Keep w w' := by
  obtain ⟨z, hz⟩ : ∃ z, ls[0]? = some z := ⟨_, List.getElem?_eq_getElem (by rw [h.len]; omega)⟩
  obtain ⟨b, off, rfl, hb, -, -⟩ := LbS.cells h 0 z hz
  obtain ⟨i0, hi, hz0, hz1, hz2⟩ := info_parts infoLb
  have hml : 0 + n ≤ maxLen := by unfold maxLen; omega
  have oR := World.ownsRow_made (base := w.heap.size) (e := 25) (size := 2) w #[] 0 (Nat.le_refl _) (by simp) rfl
  have HP := Lib.hid (h.up ((Keep.refl w).alloc (.cells #[] 25)))
  clear hz h
  have q : ∀ (w : World) (a : Option Addr) (n c n' c' : Nat), (binOp .eql 22 (.slice a n c) (.slice none n' c')).run Tryd.prog w = .ok (.bool a.isNone) w := fun w a n c n' c' => Lib.run_eql_slice_nil w _ _ a n c n' c' Tryd.underlying22
  go_enter Tryd.func25, Tryd.ntmps25
  go_wp2_with (first
    | (at_builtin; refine wpList_append_prs rfl _ _ 22 rfl w.heap.size 25 i0 (.agg #[.int .u8 0, .int .u16 0]) 4 Tryd.underlying22 hi hz0 hz1 hz2 rfl lbOne _ 0 [] rfl oR _ _ n c ls rfl HP.out (fun h => by cases h) hml (by omega) (by simp) ?_; intro A' c' w1 hown hgrow _))
  go_ret
  rw [List.nil_append, Nat.zero_add] at hown
  refine ⟨_, _, rfl, ?_, ?_⟩
  · simpa using hown
  · refine Below.trans ((Keep.refl w).alloc _) ((Only.grown (S := fun k => k = w.heap.size) (Only.refl _ _) hgrow (fun k _ e => ?_)).below (by simp) (fun k e => Nat.le_of_eq e.symm))
    exact (Option.some.inj e).symm

/-- The first error of labels that stand behind others. -/
def scanE (seen : List Lb) : List Lb → Int
  | [] => 0
  | x :: r => if chk x = 0 then (if hasL seen x then 5 else scanE (seen ++ [x]) r) else 23
/-- The error's number of a list of labels. -/
def newE (ls : List Lb) : Int := if ls.length = 0 ∨ 16 < ls.length then 3 else scanE [] ls
theorem chk_two (x : Lb) : chk x = 0 ∨ chk x = 23 := by unfold chk; split <;> simp

/-- A lattice at block p: the labels ls. -/
structure Lat (w : World) (p : Nat) (ls : List Lb) : Prop where
  ok : ∀ y ∈ ls, y.ok
  nodup : ls.Nodup
  len : 1 ≤ ls.length ∧ ls.length ≤ 16
  mem : ∃ b c m, w.heap[p]? = some (.cells #[.slice (some ⟨b, 0, none⟩) ls.length c, .map (some m)] 57 (0, 0)) ∧ LbS w w.heap.size (some ⟨b, 0, none⟩) ls.length ls ∧ LbM w m 16 ls
theorem Lat.keep {w w' : World} {p : Nat} {ls : List Lb} (h : Lat w p ls) (hk : Keep w w') : Lat w' p ls := by
  obtain ⟨b, c, m, h1, h2, h3⟩ := h.mem
  have hp := (Array.getElem?_eq_some_iff.1 h1).1
  refine ⟨h.ok, h.nodup, h.len, b, c, m, (hk.block p hp).trans h1, h2.up hk, ?_⟩
  obtain ⟨es, clock, hb, r⟩ := h3
  exact ⟨es, clock, (hk.block m (Array.getElem?_eq_some_iff.1 hb).1).trans hb, r⟩

set_option maxRecDepth 100000 in
set_option maxHeartbeats 2000000 in
theorem new_any (A : Option Addr) (n c : Nat) (ls : List Lb) (w : World) (h : LbS w w.heap.size A n ls) (hl : ∀ y ∈ ls, y.ok) (hn : n ≤ 1000000) :
    Calls Tryd.prog 9 #[.slice A n c] w fun e w' => Keep w w' ∧
      ((newE ls ≠ 0 ∧ e = .returned (.tuple #[.pointer none, .int .i64 (newE ls)])) ∨ (newE ls = 0 ∧ ∃ p, e = .returned (.tuple #[.pointer (some ⟨p, 0, none⟩), .int .i64 0]) ∧ w.heap.size ≤ p ∧ Lat w' p ls)) := by
  have hnl := h.len
  by_cases hbad : ls.length = 0 ∨ 16 < ls.length
  · have HE := Lib.hid (show newE ls = 3 from if_pos hbad)
    have hb2 : n = 0 ∨ 16 < n := by omega
    clear hbad hl h hnl
    rcases hb2 with rfl | hb2
    · go_enter Tryd.func9, Tryd.ntmps9
      go_wp2
      exact bodyPost_ret (v := .tuple #[.pointer none, .int .i64 3]) (by simp [results, Tryd.results9, go_sem]) rfl ⟨Keep.refl _, .inl (by rw [HE.out]; exact ⟨by decide, rfl⟩)⟩
    · have hb3 : ¬ n = 0 := by omega
      go_enter Tryd.func9, Tryd.ntmps9
      go_wp2
      exact bodyPost_ret (v := .tuple #[.pointer none, .int .i64 3]) (by simp [results, Tryd.results9, go_sem]) rfl ⟨Keep.refl _, .inl (by rw [HE.out]; exact ⟨by decide, rfl⟩)⟩
  · have HE := Lib.hid (show newE ls = scanE [] ls from if_neg hbad)
    have HN := Lib.hid hnl
    have HP := Lib.hid h
    have hn0 : ((n : Int) == 0) = false := by rw [beq_eq_false_iff_ne]; omega
    have hn16 : ¬ 16 < (n : Int) := by omega
    have hn1 : n ≤ 16 := by omega
    have hn2 : 1 ≤ n := by omega
    have HOK := Lib.hid hl
    clear hbad hnl h hl
    have hmm := @run_makeMap Tryd.prog
    go_enter Tryd.func9, Tryd.ntmps9
    go_wp2_with fail
    go_loopw [19] (fun i wr => ∃ (j : Nat), j ≤ n ∧ i = .int .i64 j ∧ Keep w wr ∧ LbM wr w.heap.size j (ls.take j) ∧ (ls.take j).Nodup ∧ Hid (scanE (ls.take j) (ls.drop j) = scanE [] ls)) (fun i _ => n - (intOf i).toNat)
    case atStart => exact ⟨0, Nat.zero_le _, rfl, (Keep.refl w).alloc _, World.ownsMap_made _ _ _ _, by simp, Lib.hid rfl⟩
    case round =>
      obtain ⟨j, hj, rfl, hk, hM, hnd, hsc⟩ := hrel
      by_cases hlt : j < n
      · have hlj : j < ls.length := by rw [HN.out]; exact hlt
        have hoj : ls[j]? = some ls[j] := List.getElem?_eq_getElem hlj
        have hdr : ls.drop j = ls[j] :: ls.drop (j + 1) := List.drop_eq_getElem_cons hlj
        have htk : ls.take (j + 1) = ls.take j ++ [ls[j]] := List.take_succ_eq_append_getElem hlj
        have hxok : ls[j].ok := HOK.out _ (List.getElem_mem hlj)
        have htok : ∀ y ∈ ls.take j, y.ok := fun y hy => HOK.out y (List.mem_of_mem_take hy)
        have htl : (ls.take j).length = j := by simp; omega
        generalize ls[j] = x at hoj hdr htk hxok
        obtain ⟨b, off, rfl, hb, c0, c1⟩ := LbS.cells (HP.out.keep hk (Nat.le_refl _)) j x hoj
        rw [hdr] at hsc
        have HTK := Lib.hid htk
        have HTL := Lib.hid htl
        have HM := Lib.hid (show LbM wr w.heap.size (ls.take j).length (ls.take j) from by rw [htl]; exact hM)
        have ht16 : (ls.take j).length ≤ 16 := by omega
        have HA := Lib.hid (LbAt.new wr x)
        have hnx : (n : Int) ≤ 16 := by omega
        clear hdr htk htl hM
        rcases chk_two x with hch | hch
        · cases hhas : hasL (ls.take j) x
          · go_wp2_with (first
              | (go_at_call 23; refine (check_any x _).mono ?_; rintro e w1 ⟨rfl, hk1⟩; rw [hch]; obtain ⟨d0, d1⟩ := (HA.out.keep hk1).cells)
              | (go_at_call 24; refine (add_yes _ _ x _ (LbM.keep HM.out (((Keep.refl _).alloc _).trans hk1)) htok hnd hxok ht16 hhas).mono ?_; rintro e w2 ⟨rfl, hm2, ho2⟩))
            go_roundw
            case rel =>
              have hk2 : Keep w w2 := Only.keep ((hk.alloc _).trans hk1) ho2 (fun k e => Nat.le_of_eq e.symm)
              refine ⟨j + 1, hlt, by go_num, hk2, ?_, ?_, ?_⟩
              · rw [HTK.out]
                have := hm2
                rw [HTL.out] at this
                exact this
              · rw [HTK.out, List.nodup_append]
                refine ⟨hnd, by simp, fun a ha b' hb' e => ?_⟩
                obtain rfl : b' = x := by simpa using hb'
                subst e
                rw [hasL_iff.2 ha] at hhas
                cases hhas
              · refine Lib.hid ?_
                rw [HTK.out, ← hsc.out, scanE, if_pos hch, hhas]
                rfl
            case measure => simp [intOf]; omega
          · go_wp2_with (first
              | (go_at_call 23; refine (check_any x _).mono ?_; rintro e w1 ⟨rfl, hk1⟩; rw [hch]; obtain ⟨d0, d1⟩ := (HA.out.keep hk1).cells)
              | (go_at_call 24; refine (add_no _ _ x _ (LbM.keep HM.out (((Keep.refl _).alloc _).trans hk1)) htok hnd hxok ht16 hhas).mono ?_; rintro e w2 ⟨rfl, hk2⟩))
            have e5 : newE ls = 5 := by rw [HE.out, ← hsc.out, scanE, if_pos hch, hhas]; rfl
            exact bodyPost_ret (v := .tuple #[.pointer none, .int .i64 5]) (by simp [results, Tryd.results9, go_sem]) rfl ⟨((hk.alloc _).trans hk1).trans hk2, .inl (by rw [e5]; exact ⟨by decide, rfl⟩)⟩
        · go_wp2_with (first
            | (go_at_call 23; refine (check_any x _).mono ?_; rintro e w1 ⟨rfl, hk1⟩; rw [hch]))
          have e5 : newE ls = 23 := by rw [HE.out, ← hsc.out, scanE, if_neg (by omega)]
          exact bodyPost_ret (v := .tuple #[.pointer none, .int .i64 23]) (by simp [results, Tryd.results9, go_sem]) rfl ⟨(hk.alloc _).trans hk1, .inl (by rw [e5]; exact ⟨by decide, rfl⟩)⟩
      · obtain rfl : j = n := by omega
        have htk : ls.take j = ls := List.take_of_length_le (by rw [HN.out]; exact Nat.le_refl _)
        rw [htk] at hnd
        have h0 : newE ls = 0 := by rw [HE.out, ← hsc.out, htk, List.drop_of_length_le (by rw [HN.out]; exact Nat.le_refl _)]; rfl
        have hM2 : LbM wr w.heap.size j ls := by rw [htk] at hM; exact hM
        have H0 := Lib.hid h0
        clear h0 hsc hM htk
        have HM := Lib.hid hM2
        clear hM2
        go_wp2_with (go_at_call 25; refine (clone_lb A j c ls _ (HP.out.up hk) hn2 (by omega)).mono ?_; rintro e w1 ⟨A', c', rfl, hrow, hk1⟩)
        obtain ⟨g, rfl⟩ : ∃ g, A' = some ⟨g, 0, none⟩ := by
          rcases hrow.2 with ⟨_, h0⟩ | ⟨g, cap, cur, e, _⟩
          · omega
          · simp at e; exact ⟨g, e.1⟩
        obtain ⟨A2, c2, e2, hP⟩ := Prs.of_row hrow
        simp at e2
        obtain ⟨rfl, rfl⟩ := e2
        have hkk : Keep w w1 := hk.trans hk1
        have hln := HN.out
        refine bodyPost_ret (v := .tuple #[.pointer (some ⟨w1.heap.size, 0, none⟩), .int .i64 0]) (by simp [results, Tryd.results9, go_sem]) rfl ⟨hkk.alloc _, .inr ⟨H0.out, w1.heap.size, rfl, hkk.size, ?_⟩⟩
        refine ⟨HOK.out, hnd, by omega, g, c', w.heap.size, by rw [hln]; exact World.alloc_heap_new _ _, ?_, ?_⟩
        · rw [hln]
          exact hP.up ((Keep.refl _).alloc _)
        · exact (LbM.keep (LbM.keep HM.out hk1) ((Keep.refl _).alloc _)).mono hn1

set_option maxHeartbeats 1000000 in
theorem len_any (p : Nat) (ls : List Lb) (w : World) (h : Lat w p ls) :
    Calls Tryd.prog 16 #[.pointer (some ⟨p, 0, none⟩)] w fun e w' => e = .returned (.int .i64 ls.length) ∧ Keep w w' := by
  obtain ⟨b, c, m, h1, h2, h3⟩ := h.mem
  have c0 : w.cell? ⟨p, 0, none⟩ = some (.slice (some ⟨b, 0, none⟩) ls.length c) := by simp [World.cell?, h1]
  clear h1 h2 h3 h
  go_enter Tryd.func16, Tryd.ntmps16
  go_wp2
  go_ret
  exact ⟨rfl, Keep.refl _⟩

theorem look_lb {w : World} {m n : Nat} {ls : List Lb} (h : LbM w m n ls) (x : Lb) (hx : x.ok) (z : Int) (b : Bool) (hb : Maps.has (dmp ls) (kl x) = b) (hz : (dmp ls).atKey (kl x) (.lit (.int .i64 0)) = .lit (.int .i64 z)) :
    (Instr.lookup 52 (.map (some m)) (.agg #[.int .u8 x.lv, .int .u16 x.ct]) true).run Tryd.prog w = .ok (.tuple #[.int .i64 z, .bool b]) w := by
  obtain ⟨v, ps, hrun, hv⟩ := h.look_ok lbKeyed Tryd.underlying52 (zeroInt w) (zd := .lit (.int .i64 0)) (zp := []) (plainElem_int (H := Unit) Tryd.underlying3 (by decide)) (keyOf_lb hx)
  obtain ⟨c, rfl, hc, _⟩ := plainElem_int_inv Tryd.underlying3 hv
  have := congrArg Prod.fst hc
  rw [hz] at this
  simp at this
  rw [hrun, hb, ← this]

set_option maxHeartbeats 1000000 in
/-- A label's number, if it has one. -/
theorem index_core (p : Nat) (ls : List Lb) (x : Lb) (z : Int) (hb : Bool) (w : World) (h : Lat w p ls) (hx : x.ok) (hhas : Maps.has (dmp ls) (kl x) = hb) (hat : (dmp ls).atKey (kl x) (.lit (.int .i64 0)) = .lit (.int .i64 z)) :
    Calls Tryd.prog 11 #[.pointer (some ⟨p, 0, none⟩), .agg #[.int .u8 x.lv, .int .u16 x.ct]] w fun e w' => e = .returned (.tuple #[.int .i64 (if hb then z else 0), .int .i64 (if hb then 0 else 30)]) ∧ Keep w w' := by
  obtain ⟨b, c, m, h1, h2, h3⟩ := h.mem
  have hp := (Array.getElem?_eq_some_iff.1 h1).1
  have c1 : w.cell? ⟨p, 1, none⟩ = some (.map (some m)) := by simp [World.cell?, h1]
  have hl : (Instr.lookup 52 (.map (some m)) (.agg #[.int .u8 x.lv, .int .u16 x.ct]) true).run Tryd.prog (w.alloc (.cells #[.int .u8 x.lv, .int .u16 x.ct] 25)) = .ok (.tuple #[.int .i64 z, .bool hb]) _ := look_lb (LbM.keep h3 ((Keep.refl w).alloc _)) x hx z hb hhas hat
  have hl2 : (Instr.lookup 52 (.map (some m)) (.agg #[.int .u8 x.lv, .int .u16 x.ct]) true).run Tryd.prog (w.alloc (.cells #[.int .u8 x.lv, .int .u16 x.ct] 25)).drew = .ok (.tuple #[.int .i64 z, .bool hb]) _ := look_lb (LbM.keep h3 ((Keep.refl w).alloc _).drew) x hx z hb hhas hat
  have c2 := ((Keep.refl w).alloc (.cells #[.int .u8 x.lv, .int .u16 x.ct] 25)).cell (p := ⟨p, 1, none⟩) hp
  rw [c1] at c2
  clear h1 h2 h3 h hhas hat
  cases hb
  · go_enter Tryd.func11, Tryd.ntmps11
    go_wp2_with fail
    go_region
    go_wp2
    exact bodyPost_ret (v := .tuple #[.int .i64 0, .int .i64 30]) (by simp [results, Tryd.results11, go_sem]) rfl ⟨rfl, ((Keep.refl w).alloc _).drew⟩
  · go_enter Tryd.func11, Tryd.ntmps11
    go_wp2_with fail
    go_region
    go_wp2
    exact bodyPost_ret (v := .tuple #[.int .i64 z, .int .i64 0]) (by simp [results, Tryd.results11, go_sem]) rfl ⟨rfl, ((Keep.refl w).alloc _).drew⟩
theorem index_yes (p : Nat) (ls : List Lb) (x : Lb) (j : Nat) (w : World) (h : Lat w p ls) (hj : ls[j]? = some x) :
    Calls Tryd.prog 11 #[.pointer (some ⟨p, 0, none⟩), .agg #[.int .u8 x.lv, .int .u16 x.ct]] w fun e w' => e = .returned (.tuple #[.int .i64 j, .int .i64 0]) ∧ Keep w w' :=
  index_core p ls x j true w h (h.ok x (List.mem_of_getElem? hj)) (by rw [dmp_has h.ok (h.ok x (List.mem_of_getElem? hj)), hasL_iff]; exact List.mem_of_getElem? hj) (dmp_at h.ok h.nodup hj _)
theorem index_no (p : Nat) (ls : List Lb) (x : Lb) (w : World) (h : Lat w p ls) (hx : x.ok) (hn : hasL ls x = false) :
    Calls Tryd.prog 11 #[.pointer (some ⟨p, 0, none⟩), .agg #[.int .u8 x.lv, .int .u16 x.ct]] w fun e w' => e = .returned (.tuple #[.int .i64 0, .int .i64 30]) ∧ Keep w w' :=
  index_core p ls x 0 false w h hx (by rw [dmp_has h.ok hx, hn]) (dmp_none h.ok hx hn _)
end Go.Proofs.YtknjekakncjbgabDoor
