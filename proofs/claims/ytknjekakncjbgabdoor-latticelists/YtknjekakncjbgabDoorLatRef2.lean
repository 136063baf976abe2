/- The document's own answers of layer 5: Index, Below, Close. -/
import Derived.Test.YtknjekakncjbgabDoorLatRef
namespace Go.Proofs.YtknjekakncjbgabDoor
open Go.RowKit

set_option maxRecDepth 100000 in
set_option maxHeartbeats 2000000 in
theorem rindex_core (A : Option Addr) (n c : Nat) (ls : List Lb) (x : Lb) (w : World) (h : LbS w w.heap.size A n ls) (hn : n ≤ 1000000) :
    Calls Tryd.prog 12 #[.slice A n c, .agg #[.int .u8 x.lv, .int .u16 x.ct]] w fun e w' => ((∃ j : Nat, ls[j]? = some x ∧ hasL (ls.take j) x = false ∧ e = .returned (.int .i64 j)) ∨ (hasL ls x = false ∧ e = .returned (.int .i64 (-1)))) ∧ Keep w w' := by
  have HN := Lib.hid h.len
  have HP := Lib.hid h
  have HX := Lib.hid (LbAt.new w x)
  clear h
  go_enter Tryd.func12, Tryd.ntmps12
  go_wp2_with fail
  go_loopw [5] (fun i wr => ∃ (j : Nat), j ≤ n ∧ i = .int .i64 j ∧ Keep (w.alloc (.cells #[.int .u8 x.lv, .int .u16 x.ct] 25)) wr ∧ Hid (hasL (ls.take j) x = false)) (fun i _ => n - (intOf i).toNat)
  case atStart => exact ⟨0, Nat.zero_le _, rfl, Keep.refl _, Lib.hid rfl⟩
  case round =>
    obtain ⟨j, hj, rfl, hk, hno⟩ := hrel
    have hkw : Keep w wr := ((Keep.refl w).alloc _).trans hk
    by_cases hlt : j < n
    · obtain ⟨y, hy⟩ : ∃ y, ls[j]? = some y := ⟨_, List.getElem?_eq_getElem (by rw [HN.out]; omega)⟩
      obtain ⟨b, off, rfl, hb, c0, c1⟩ := LbS.cells (HP.out.keep hkw (Nat.le_refl _)) j y hy
      obtain ⟨d0, d1⟩ := (HX.out.keep hk).cells
      have HH := Lib.hid (hasL_take x hy)
      have HY := Lib.hid hy
      have hjn : (j : Int) < (n : Int) := by omega
      have hn6 : (n : Int) ≤ 1000000 := by omega
      have q1 := equalIn_lb y.lv y.ct x.lv x.ct
      have hq : eq4 y.lv y.ct x.lv x.ct = eqL y x := rfl
      rw [hq] at q1
      clear hy hq
      cases he : eqL y x
      · rw [he] at q1
        go_wp2_with fail
        go_region
        go_wp2_with fail
        go_roundw
        case rel => exact ⟨j + 1, hlt, by go_num, hk.drew, Lib.hid (by rw [HH.out, hno.out, he]; rfl)⟩
        case measure => simp [intOf]; omega
      · rw [he] at q1
        have hyx : y = x := eqL_iff.1 he
        have HYX := Lib.hid hyx
        clear hyx
        go_wp2_with fail
        go_region
        go_wp2_with fail
        go_ret
        exact ⟨.inl ⟨j, by rw [← HYX.out]; exact HY.out, hno.out, rfl⟩, hkw.drew⟩
    · obtain rfl : j = n := by omega
      have hfin : hasL ls x = false := by
        have := hno.out
        rwa [List.take_of_length_le (by rw [HN.out]; exact Nat.le_refl _)] at this
      clear hno
      go_wp2_with fail
      go_ret
      exact ⟨.inr ⟨hfin, rfl⟩, hkw⟩
theorem rindex_yes (A : Option Addr) (n c : Nat) (ls : List Lb) (x : Lb) (j : Nat) (w : World) (h : LbS w w.heap.size A n ls) (hn : n ≤ 1000000) (hd : ls.Nodup) (hj : ls[j]? = some x) :
    Calls Tryd.prog 12 #[.slice A n c, .agg #[.int .u8 x.lv, .int .u16 x.ct]] w fun e w' => e = .returned (.int .i64 j) ∧ Keep w w' := by
  refine (rindex_core A n c ls x w h hn).mono ?_
  rintro e w' ⟨⟨i, hi, hno, rfl⟩ | ⟨hno, rfl⟩, hk⟩
  · have : i = j := (List.getElem?_inj (List.getElem?_eq_some_iff.1 hi).1 hd).1 (hi.trans hj.symm)
    subst this
    exact ⟨rfl, hk⟩
  · rw [hasL_iff.2 (List.mem_of_getElem? hj)] at hno
    cases hno
theorem rindex_no (A : Option Addr) (n c : Nat) (ls : List Lb) (x : Lb) (w : World) (h : LbS w w.heap.size A n ls) (hn : n ≤ 1000000) (hj : hasL ls x = false) :
    Calls Tryd.prog 12 #[.slice A n c, .agg #[.int .u8 x.lv, .int .u16 x.ct]] w fun e w' => e = .returned (.int .i64 (-1)) ∧ Keep w w' := by
  refine (rindex_core A n c ls x w h hn).mono ?_
  rintro e w' ⟨⟨i, hi, hno, rfl⟩ | ⟨hno, rfl⟩, hk⟩
  · rw [hasL_iff.2 (List.mem_of_getElem? hi)] at hj
    cases hj
  · exact ⟨rfl, hk⟩

theorem mkM_add {j : Nat} {p : Nat → Bool} (h : p j = true) : mkM (j + 1) p = mkM j p + 2 ^ j := by
  have := Nat.two_pow_add_eq_or_of_lt (mkM_lt p j) 1
  rw [Nat.mul_one] at this
  rw [mkM, if_pos h, Nat.or_comm, ← this, Nat.add_comm]
theorem mkM_same {j : Nat} {p : Nat → Bool} (h : p j = false) : mkM (j + 1) p = mkM j p := by
  rw [mkM, h]
  simp
theorem wrap_twoP {j : Nat} (h : j ≤ 16) : IntKind.u32.wrap (twoP j) = twoP j := by
  have h1 := pow_bd h
  unfold twoP
  rw [IntKind.wrap_u32]
  generalize (2 ^ j : Nat) = q at *
  omega
theorem mkM_bd {j : Nat} (h : j ≤ 16) (p : Nat → Bool) : mkM j p ≤ 65535 := by
  have := mkM_lt p j
  have := pow_bd h
  omega
theorem add_twoP {j : Nat} (h : j ≤ 16) (p : Nat → Bool) (hp : p j = true) : IntKind.u32.wrap ((mkM j p : Int) + twoP j) = (mkM (j + 1) p : Int) := by
  have h1 := pow_bd h
  have h2 := mkM_bd h p
  rw [mkM_add hp]
  unfold twoP
  rw [IntKind.wrap_u32]
  generalize (2 ^ j : Nat) = q at *
  omega

set_option maxRecDepth 100000 in
set_option maxHeartbeats 2000000 in
theorem rbelow_any (A : Option Addr) (n c : Nat) (ls : List Lb) (x : Lb) (w : World) (h : LbS w w.heap.size A n ls) (hl : ∀ y ∈ ls, y.ok) (hn : n ≤ 16) (hx : x.ok) :
    Calls Tryd.prog 14 #[.slice A n c, .agg #[.int .u8 x.lv, .int .u16 x.ct]] w fun e w' => e = .returned (.int .u32 (blw ls x)) ∧ Keep w w' := by
  have HN := Lib.hid h.len
  have HP := Lib.hid h
  have HOK := Lib.hid hl
  have HX := Lib.hid (LbAt.new w x)
  have HB := Lib.hid (show blw ls x = mkM n (domAt ls x) from by rw [blw, h.len])
  clear h hl
  go_enter Tryd.func14, Tryd.ntmps14
  go_wp2_with fail
  go_loopw [5, 6] (fun m i wr => ∃ (j : Nat), j ≤ n ∧ i = .int .i64 j ∧ m = .int .u32 (mkM j (domAt ls x) : Nat) ∧ Keep (w.alloc (.cells #[.int .u8 x.lv, .int .u16 x.ct] 25)) wr) (fun m i _ => n - (intOf i).toNat)
  case atStart => exact ⟨0, Nat.zero_le _, rfl, rfl, Keep.refl _⟩
  case round =>
    obtain ⟨j, hj, rfl, rfl, hk⟩ := hrel
    have hkw : Keep w wr := ((Keep.refl w).alloc _).trans hk
    by_cases hlt : j < n
    · have hlj : j < ls.length := by rw [HN.out]; exact hlt
      have hoj : ls[j]? = some ls[j] := List.getElem?_eq_getElem hlj
      have hyok : ls[j].ok := HOK.out _ (List.getElem_mem hlj)
      generalize ls[j] = y at hoj hyok
      obtain ⟨b, off, rfl, hb, c0, c1⟩ := LbS.cells (HP.out.keep hkw (Nat.le_refl _)) j y hoj
      have hjn : (j : Int) < (n : Int) := by omega
      have hn16 : (n : Int) ≤ 16 := by omega
      have hdo : domAt ls x j = dm x y := by unfold domAt; rw [hoj]
      have HD := Lib.hid hdo
      have HCC := Lib.hid (And.intro c0 c1)
      have hbw := Nat.lt_of_lt_of_le hb hkw.size
      clear hoj hdo hlj
      go_wp2_with fail
      have HS := Lib.hid (show ∀ w', Keep wr w' → Keep wr w' ∧ ((w'.cell? ⟨w.heap.size, 0, none⟩ = some (.int .u8 x.lv) ∧ w'.cell? ⟨w.heap.size, 1, none⟩ = some (.int .u16 x.ct)) ∧ (w'.cell? ⟨b, off + j * 2, none⟩ = some (.int .u8 y.lv) ∧ w'.cell? ⟨b, off + j * 2 + 1, none⟩ = some (.int .u16 y.ct))) from
        fun w' h => ⟨h, (HX.out.keep (hk.trans h)).cells, (h.cell (p := ⟨b, off + j * 2, none⟩) hbw).trans HCC.out.1, (h.cell (p := ⟨b, off + j * 2 + 1, none⟩) hbw).trans HCC.out.2⟩)
      have hKc := (Keep.refl wr).drew
      refine seq_region (S := fun w' => Keep wr w' ∧ ((w'.cell? ⟨w.heap.size, 0, none⟩ = some (.int .u8 x.lv) ∧ w'.cell? ⟨w.heap.size, 1, none⟩ = some (.int .u16 x.ct)) ∧ (w'.cell? ⟨b, off + j * 2, none⟩ = some (.int .u8 y.lv) ∧ w'.cell? ⟨b, off + j * 2 + 1, none⟩ = some (.int .u16 y.ct)))) [⟨0, 8, 8192⟩, ⟨0, 1, 16384⟩, ⟨0, 64, 32768⟩, ⟨6, 49152, 65536⟩, ⟨8, 65536, 131072⟩, ⟨17, 139264, 262144⟩] [(0, false), (1, false), (2, false), (3, false), (4, false), (5, true)] rfl (by kernel_rfl) (by kernel_rfl) (fun _ _ d _ _ h => by cases d <;> exact h) (HS.out _ hKc) ?_
      simp only [rowsOf, rowAt, gslot, List.map_cons, List.map_nil, List.getElem?_toArray, List.getElem?_cons_zero, List.getElem?_cons_succ]
      repeat (first
        | (refine seq_take (v := ?_) (a' := ?_) (by rfl) ?_ ?_ ?_
           rotate_left 2
           · (intro w hSw; obtain ⟨-, hSw⟩ := hSw; go_split_ands; go_simp; with_reducible rfl)
           · (simp only [Act.put, List.setIfInBounds_toArray, List.set_cons_zero, List.set_cons_succ]; with_reducible rfl))
        | (refine seq_callv (f := 26) (args := ?_) (v := ?_) (a' := ?_) (by rfl) (by rfl) (by rfl) Tryd.call26 ?_ ?_ ?_ ?_
           rotate_left 3
           · (go_simp; with_reducible rfl)
           · ((with_reducible refine (rdom_any x y _ hx hyok).mono ?_)
              rintro e w' ⟨rfl, hk⟩
              refine ⟨?_, HS.out _ (hKc.trans hk)⟩
              with_reducible rfl)
           · (simp only [Act.put, List.setIfInBounds_toArray, List.set_cons_zero, List.set_cons_succ]; with_reducible rfl)
           clear hKc
           intro w2 hw2
           have hKc := hw2.1
           clear hw2)
        | (refine seq_skip (a' := ?_) (HS.out _ hKc) (by rfl) ?_ ?_
           rotate_left
           · (simp only [Act.put, List.setIfInBounds_toArray, List.set_cons_zero, List.set_cons_succ]; with_reducible rfl)))
      refine seq_nil ?_
      cases hd : dm x y
      · have HS0 := Lib.hid (mkM_same (HD.out.trans hd))
        go_wp2_with fail
        go_roundw
        case rel => exact ⟨j + 1, hlt, by go_num, by rw [HS0.out], hk.trans hKc⟩
        case measure => simp [intOf]; omega
      · have hwt := wrap_twoP (j := j) (by omega)
        have hadd := add_twoP (j := j) (by omega) (domAt ls x) (HD.out.trans hd)
        go_wp2_with (go_at_call 27; refine (power_any j _ (by omega)).mono ?_; rintro e w3 ⟨rfl, rfl⟩)
        go_roundw
        case rel => exact ⟨j + 1, hlt, by go_num, by first | rfl | rw [hadd], hk.trans hKc⟩
        case measure => simp [intOf]; omega
    · obtain rfl : j = n := by omega
      go_wp2_with fail
      go_ret
      exact ⟨by rw [HB.out]; rfl, hkw⟩

theorem rhas_any (m i : Nat) (v : Bool) (w : World) (hm : m < 4294967296) (hi : i ≤ 64) (hv : m.testBit i = v) :
    Calls Tryd.prog 28 #[.int .u32 m, .int .i64 i] w fun e w' => e = .returned (.bool v) ∧ Keep w w' := by
  have hb := bitI_bt (m : Int) i (by omega)
  have e : bt (m : Int) i = v := by unfold bt; rw [Int.toNat_natCast]; exact hv
  rw [e] at hb
  clear e hv
  go_enter Tryd.func28, Tryd.ntmps28
  go_wp2_with (go_at_call 32; refine (bit_any _ _ _ (by omega) (by omega) hi).mono ?_; rintro e w' ⟨rfl, rfl⟩)
  go_ret
  exact ⟨rfl, Keep.refl _⟩

/-- Does the q-th dominate the i-th? -/
def dmq (ls : List Lb) (q i : Nat) : Bool := match ls[q]? with
  | some x => domAt ls x i
  | none => false
/-- Is the i-th dominated by one of the first k of a mask? -/
def smB (ls : List Lb) (m i : Nat) : Nat → Bool
  | 0 => false
  | k + 1 => smB ls m i k || (m.testBit k && dmq ls k i)
theorem smB_iff {ls : List Lb} {m i : Nat} : ∀ k, smB ls m i k = true ↔ ∃ q, q < k ∧ m.testBit q = true ∧ dmq ls q i = true
  | 0 => by simp [smB]
  | k + 1 => by
    rw [smB, Bool.or_eq_true, smB_iff k, Bool.and_eq_true]
    constructor
    · rintro (⟨q, h1, h2⟩ | h2)
      · exact ⟨q, by omega, h2⟩
      · exact ⟨k, by omega, h2⟩
    · rintro ⟨q, h1, h2⟩
      rcases Nat.lt_or_ge q k with h | h
      · exact .inl ⟨q, h, h2⟩
      · obtain rfl : q = k := by omega
        exact .inr h2
theorem clo_eq {ls : List Lb} {m : Nat} (hl : ls.length ≤ 64) : clo ls m = mkM ls.length (fun i => smB ls m i ls.length) := by
  refine clo_ext hl fun k => ?_
  rw [mkM_test, Bool.and_eq_true, decide_eq_true_iff, smB_iff]
  constructor
  · rintro ⟨i, x, h1, h2, h3⟩
    obtain ⟨y, h4, _⟩ := domAt_iff.1 h3
    exact ⟨(List.getElem?_eq_some_iff.1 h4).1, i, (List.getElem?_eq_some_iff.1 h2).1, h1, by unfold dmq; rw [h2]; exact h3⟩
  · rintro ⟨_, q, h1, h2, h3⟩
    unfold dmq at h3
    cases hq : ls[q]? with
    | none => rw [hq] at h3; cases h3
    | some x => rw [hq] at h3; exact ⟨q, x, h2, hq, h3⟩

set_option maxRecDepth 100000 in
set_option maxHeartbeats 4000000 in
theorem rclose_any (A : Option Addr) (n c : Nat) (ls : List Lb) (m : Nat) (w : World) (h : LbS w w.heap.size A n ls) (hl : ∀ y ∈ ls, y.ok) (hn : n ≤ 16) (hm : m < 4294967296) :
    Calls Tryd.prog 15 #[.slice A n c, .int .u32 m] w fun e w' => e = .returned (.int .u32 (clo ls m)) ∧ Keep w w' := by
  have HN := Lib.hid h.len
  have HP := Lib.hid h
  have HOK := Lib.hid hl
  have HB := Lib.hid (show clo ls m = mkM n (fun i => smB ls m i n) from by have h1 := h.len; rw [clo_eq (by omega), h1])
  clear h hl
  go_enter Tryd.func15, Tryd.ntmps15
  go_wp2_with fail
  go_loopw [5, 6] (fun v i wr => ∃ (j : Nat), j ≤ n ∧ i = .int .i64 j ∧ v = .int .u32 (mkM j (fun i => smB ls m i n) : Nat) ∧ Keep w wr) (fun v i _ => n - (intOf i).toNat)
  case atStart => exact ⟨0, Nat.zero_le _, rfl, rfl, Keep.refl _⟩
  case round =>
    obtain ⟨j, hj, rfl, rfl, hk⟩ := hrel
    by_cases hlt : j < n
    · have hlj : j < ls.length := by rw [HN.out]; exact hlt
      have hoj : ls[j]? = some ls[j] := List.getElem?_eq_getElem hlj
      have hyok : ls[j].ok := HOK.out _ (List.getElem_mem hlj)
      generalize ls[j] = y at hoj hyok
      have HO := Lib.hid hoj
      obtain ⟨b, off, rfl, hb, c0, c1⟩ := LbS.cells (HP.out.keep hk (Nat.le_refl _)) j y hoj
      have HCC := Lib.hid (And.intro c0 c1)
      have hbw := Nat.lt_of_lt_of_le hb hk.size
      have hjn : (j : Int) < (n : Int) := by omega
      have hn16 : (n : Int) ≤ 16 := by omega
      clear hoj hlj c0 c1
      go_wp2_with fail
      go_loopw [7, 8] (fun s i wi => ∃ (k : Nat), k ≤ n ∧ i = .int .i64 k ∧ s = .bool (smB ls m j k) ∧ Keep wr wi) (fun s i _ => n - (intOf i).toNat)
      case atStart => exact ⟨0, Nat.zero_le _, rfl, rfl, Keep.refl _⟩
      case round =>
        obtain ⟨k, hkn, rfl, rfl, hki⟩ := hrel
        by_cases hlk : k < n
        · have hlk2 : k < ls.length := by rw [HN.out]; exact hlk
          have hok : ls[k]? = some ls[k] := List.getElem?_eq_getElem hlk2
          have hxok : ls[k].ok := HOK.out _ (List.getElem_mem hlk2)
          generalize ls[k] = x at hok hxok
          obtain ⟨b2, off2, e2, -, d0, d1⟩ := LbS.cells (HP.out.keep (hk.trans hki) (Nat.le_refl _)) k x hok
          cases e2
          have hkn2 : (k : Int) < (n : Int) := by omega
          have hdq : dmq ls k j = dm x y := by unfold dmq; rw [hok]; show domAt ls x j = _; unfold domAt; rw [HO.out]
          have HQ := Lib.hid hdq
          have HST := Lib.hid (show smB ls m j (k + 1) = (smB ls m j k || (m.testBit k && dm x y)) from by rw [smB, hdq])
          have HD := Lib.hid (And.intro d0 d1)
          have hbi := Nat.lt_of_lt_of_le hbw hki.size
          have hk64 : k ≤ 64 := by omega
          clear hok hdq d0 d1 hlk2
          go_wp2_with fail
          have HS := Lib.hid (show ∀ w', Keep wr w' → Keep wr w' ∧ ((w'.cell? ⟨b, off + k * 2, none⟩ = some (.int .u8 x.lv) ∧ w'.cell? ⟨b, off + k * 2 + 1, none⟩ = some (.int .u16 x.ct)) ∧ (w'.cell? ⟨b, off + j * 2, none⟩ = some (.int .u8 y.lv) ∧ w'.cell? ⟨b, off + j * 2 + 1, none⟩ = some (.int .u16 y.ct))) from
            fun w' h => ⟨h, ⟨(h.cell (p := ⟨b, off + k * 2, none⟩) hbi).trans HD.out.1, (h.cell (p := ⟨b, off + k * 2 + 1, none⟩) hbi).trans HD.out.2⟩, ((hki.trans h).cell (p := ⟨b, off + j * 2, none⟩) hbw).trans HCC.out.1, ((hki.trans h).cell (p := ⟨b, off + j * 2 + 1, none⟩) hbw).trans HCC.out.2⟩)
          have hKc := (Keep.refl wr).drew
          cases hsm : smB ls m j k
          · cases hmb : m.testBit k
            · refine seq_region (S := fun w' => Keep wr w' ∧ ((w'.cell? ⟨b, off + k * 2, none⟩ = some (.int .u8 x.lv) ∧ w'.cell? ⟨b, off + k * 2 + 1, none⟩ = some (.int .u16 x.ct)) ∧ (w'.cell? ⟨b, off + j * 2, none⟩ = some (.int .u8 y.lv) ∧ w'.cell? ⟨b, off + j * 2 + 1, none⟩ = some (.int .u16 y.ct)))) [⟨0, 128, 2097152⟩, ⟨1, 2097152, 4194304⟩, ⟨2, 4194306, 8388608⟩, ⟨2, 4194560, 16777216⟩, ⟨14, 29360128, 33554432⟩, ⟨18, 37748736, 67108864⟩, ⟨32, 67108865, 134217728⟩, ⟨32, 67109120, 268435456⟩, ⟨224, 469762048, 536870912⟩, ⟨288, 603979776, 1073741824⟩, ⟨32, 67108865, 2147483648⟩, ⟨32, 67108928, 4294967296⟩, ⟨3104, 6509559808, 8589934592⟩, ⟨4128, 8657043456, 17179869184⟩, ⟨8736, 18320719872, 34359738368⟩, ⟨16418, 34431041536, 68719476736⟩, ⟨32770, 68723671040, 137438953472⟩, ⟨131071, 137438953472, 128⟩] [(0, false), (1, false), (2, false), (3, false), (4, true), (5, false), (6, false), (7, false), (8, false), (9, false), (10, false), (11, false), (12, false), (13, false), (14, true), (15, false), (16, false), (17, false)] rfl (by kernel_rfl) (by kernel_rfl) (fun _ _ d _ _ h => by cases d <;> exact h) (HS.out _ hKc) ?_
              simp only [rowsOf, rowAt, gslot, List.map_cons, List.map_nil, List.getElem?_toArray, List.getElem?_cons_zero, List.getElem?_cons_succ, Option.bind_some]
              repeat (first
                | (refine seq_take (v := ?_) (a' := ?_) (by rfl) ?_ ?_ ?_
                   rotate_left 2
                   · (intro w hSw; obtain ⟨-, hSw⟩ := hSw; go_split_ands; go_simp; with_reducible rfl)
                   · (simp only [Act.put, List.setIfInBounds_toArray, List.set_cons_zero, List.set_cons_succ]; with_reducible rfl))
                | (refine seq_callv (f := 28) (args := ?_) (v := ?_) (a' := ?_) (by rfl) (by rfl) (by rfl) Tryd.call28 ?_ ?_ ?_ ?_
                   rotate_left 3
                   · (go_simp; with_reducible rfl)
                   · ((with_reducible refine (rhas_any m k false _ hm hk64 hmb).mono ?_)
                      rintro e w' ⟨rfl, hk⟩
                      refine ⟨?_, HS.out _ (hKc.trans hk)⟩
                      with_reducible rfl)
                   · (simp only [Act.put, List.setIfInBounds_toArray, List.set_cons_zero, List.set_cons_succ]; with_reducible rfl)
                   clear hKc
                   intro w2 hw2
                   have hKc := hw2.1
                   clear hw2)
                | (refine seq_callv (f := 26) (args := ?_) (v := ?_) (a' := ?_) (by rfl) (by rfl) (by rfl) Tryd.call26 ?_ ?_ ?_ ?_
                   rotate_left 3
                   · (go_simp; with_reducible rfl)
                   · ((with_reducible refine (rdom_any x y _ hxok hyok).mono ?_)
                      rintro e w' ⟨rfl, hk⟩
                      refine ⟨?_, HS.out _ (hKc.trans hk)⟩
                      with_reducible rfl)
                   · (simp only [Act.put, List.setIfInBounds_toArray, List.set_cons_zero, List.set_cons_succ]; with_reducible rfl)
                   clear hKc
                   intro w2 hw2
                   have hKc := hw2.1
                   clear hw2)
                | (refine seq_skip (a' := ?_) (HS.out _ hKc) (by rfl) ?_ ?_
                   rotate_left
                   · (simp only [Act.put, List.setIfInBounds_toArray, List.set_cons_zero, List.set_cons_succ]; with_reducible rfl)))
              refine seq_nil ?_
              go_wp2_with fail
              go_roundw
              case rel => exact ⟨k + 1, hlk, by go_num, by rw [HST.out, hsm, hmb, Bool.false_and, Bool.or_false], hki.trans hKc⟩
              case measure => simp [intOf]; omega
            · refine seq_region (S := fun w' => Keep wr w' ∧ ((w'.cell? ⟨b, off + k * 2, none⟩ = some (.int .u8 x.lv) ∧ w'.cell? ⟨b, off + k * 2 + 1, none⟩ = some (.int .u16 x.ct)) ∧ (w'.cell? ⟨b, off + j * 2, none⟩ = some (.int .u8 y.lv) ∧ w'.cell? ⟨b, off + j * 2 + 1, none⟩ = some (.int .u16 y.ct)))) [⟨0, 128, 2097152⟩, ⟨1, 2097152, 4194304⟩, ⟨2, 4194306, 8388608⟩, ⟨2, 4194560, 16777216⟩, ⟨14, 29360128, 33554432⟩, ⟨18, 37748736, 67108864⟩, ⟨32, 67108865, 134217728⟩, ⟨32, 67109120, 268435456⟩, ⟨224, 469762048, 536870912⟩, ⟨288, 603979776, 1073741824⟩, ⟨32, 67108865, 2147483648⟩, ⟨32, 67108928, 4294967296⟩, ⟨3104, 6509559808, 8589934592⟩, ⟨4128, 8657043456, 17179869184⟩, ⟨8736, 18320719872, 34359738368⟩, ⟨16418, 34431041536, 68719476736⟩, ⟨32770, 68723671040, 137438953472⟩, ⟨131071, 137438953472, 128⟩] [(0, false), (1, false), (2, false), (3, false), (4, true), (5, false), (6, false), (7, false), (8, false), (9, false), (10, false), (11, false), (12, false), (13, false), (14, true), (15, false), (16, false), (17, false)] rfl (by kernel_rfl) (by kernel_rfl) (fun _ _ d _ _ h => by cases d <;> exact h) (HS.out _ hKc) ?_
              simp only [rowsOf, rowAt, gslot, List.map_cons, List.map_nil, List.getElem?_toArray, List.getElem?_cons_zero, List.getElem?_cons_succ, Option.bind_some]
              repeat (first
                | (refine seq_take (v := ?_) (a' := ?_) (by rfl) ?_ ?_ ?_
                   rotate_left 2
                   · (intro w hSw; obtain ⟨-, hSw⟩ := hSw; go_split_ands; go_simp; with_reducible rfl)
                   · (simp only [Act.put, List.setIfInBounds_toArray, List.set_cons_zero, List.set_cons_succ]; with_reducible rfl))
                | (refine seq_callv (f := 28) (args := ?_) (v := ?_) (a' := ?_) (by rfl) (by rfl) (by rfl) Tryd.call28 ?_ ?_ ?_ ?_
                   rotate_left 3
                   · (go_simp; with_reducible rfl)
                   · ((with_reducible refine (rhas_any m k true _ hm hk64 hmb).mono ?_)
                      rintro e w' ⟨rfl, hk⟩
                      refine ⟨?_, HS.out _ (hKc.trans hk)⟩
                      with_reducible rfl)
                   · (simp only [Act.put, List.setIfInBounds_toArray, List.set_cons_zero, List.set_cons_succ]; with_reducible rfl)
                   clear hKc
                   intro w2 hw2
                   have hKc := hw2.1
                   clear hw2)
                | (refine seq_callv (f := 26) (args := ?_) (v := ?_) (a' := ?_) (by rfl) (by rfl) (by rfl) Tryd.call26 ?_ ?_ ?_ ?_
                   rotate_left 3
                   · (go_simp; with_reducible rfl)
                   · ((with_reducible refine (rdom_any x y _ hxok hyok).mono ?_)
                      rintro e w' ⟨rfl, hk⟩
                      refine ⟨?_, HS.out _ (hKc.trans hk)⟩
                      with_reducible rfl)
                   · (simp only [Act.put, List.setIfInBounds_toArray, List.set_cons_zero, List.set_cons_succ]; with_reducible rfl)
                   clear hKc
                   intro w2 hw2
                   have hKc := hw2.1
                   clear hw2)
                | (refine seq_skip (a' := ?_) (HS.out _ hKc) (by rfl) ?_ ?_
                   rotate_left
                   · (simp only [Act.put, List.setIfInBounds_toArray, List.set_cons_zero, List.set_cons_succ]; with_reducible rfl)))
              refine seq_nil ?_
              go_wp2_with fail
              go_roundw
              case rel => exact ⟨k + 1, hlk, by go_num, by rw [HST.out, hsm, hmb, Bool.true_and, Bool.false_or], hki.trans hKc⟩
              case measure => simp [intOf]; omega
          · refine seq_region (S := fun w' => Keep wr w' ∧ ((w'.cell? ⟨b, off + k * 2, none⟩ = some (.int .u8 x.lv) ∧ w'.cell? ⟨b, off + k * 2 + 1, none⟩ = some (.int .u16 x.ct)) ∧ (w'.cell? ⟨b, off + j * 2, none⟩ = some (.int .u8 y.lv) ∧ w'.cell? ⟨b, off + j * 2 + 1, none⟩ = some (.int .u16 y.ct)))) [⟨0, 128, 2097152⟩, ⟨1, 2097152, 4194304⟩, ⟨2, 4194306, 8388608⟩, ⟨2, 4194560, 16777216⟩, ⟨14, 29360128, 33554432⟩, ⟨18, 37748736, 67108864⟩, ⟨32, 67108865, 134217728⟩, ⟨32, 67109120, 268435456⟩, ⟨224, 469762048, 536870912⟩, ⟨288, 603979776, 1073741824⟩, ⟨32, 67108865, 2147483648⟩, ⟨32, 67108928, 4294967296⟩, ⟨3104, 6509559808, 8589934592⟩, ⟨4128, 8657043456, 17179869184⟩, ⟨8736, 18320719872, 34359738368⟩, ⟨16418, 34431041536, 68719476736⟩, ⟨32770, 68723671040, 137438953472⟩, ⟨131071, 137438953472, 128⟩] [(0, false), (1, false), (2, false), (3, false), (4, true), (5, false), (6, false), (7, false), (8, false), (9, false), (10, false), (11, false), (12, false), (13, false), (14, true), (15, false), (16, false), (17, false)] rfl (by kernel_rfl) (by kernel_rfl) (fun _ _ d _ _ h => by cases d <;> exact h) (HS.out _ hKc) ?_
            simp only [rowsOf, rowAt, gslot, List.map_cons, List.map_nil, List.getElem?_toArray, List.getElem?_cons_zero, List.getElem?_cons_succ, Option.bind_some]
            repeat (first
              | (refine seq_take (v := ?_) (a' := ?_) (by rfl) ?_ ?_ ?_
                 rotate_left 2
                 · (intro w hSw; obtain ⟨-, hSw⟩ := hSw; go_split_ands; go_simp; with_reducible rfl)
                 · (simp only [Act.put, List.setIfInBounds_toArray, List.set_cons_zero, List.set_cons_succ]; with_reducible rfl))
              | (refine seq_callv (f := 28) (args := ?_) (v := ?_) (a' := ?_) (by rfl) (by rfl) (by rfl) Tryd.call28 ?_ ?_ ?_ ?_
                 rotate_left 3
                 · (go_simp; with_reducible rfl)
                 · ((with_reducible refine (rhas_any m k _ _ hm hk64 rfl).mono ?_)
                    rintro e w' ⟨rfl, hk⟩
                    refine ⟨?_, HS.out _ (hKc.trans hk)⟩
                    with_reducible rfl)
                 · (simp only [Act.put, List.setIfInBounds_toArray, List.set_cons_zero, List.set_cons_succ]; with_reducible rfl)
                 clear hKc
                 intro w2 hw2
                 have hKc := hw2.1
                 clear hw2)
              | (refine seq_callv (f := 26) (args := ?_) (v := ?_) (a' := ?_) (by rfl) (by rfl) (by rfl) Tryd.call26 ?_ ?_ ?_ ?_
                 rotate_left 3
                 · (go_simp; with_reducible rfl)
                 · ((with_reducible refine (rdom_any x y _ hxok hyok).mono ?_)
                    rintro e w' ⟨rfl, hk⟩
                    refine ⟨?_, HS.out _ (hKc.trans hk)⟩
                    with_reducible rfl)
                 · (simp only [Act.put, List.setIfInBounds_toArray, List.set_cons_zero, List.set_cons_succ]; with_reducible rfl)
                 clear hKc
                 intro w2 hw2
                 have hKc := hw2.1
                 clear hw2)
              | (refine seq_skip (a' := ?_) (HS.out _ hKc) (by rfl) ?_ ?_
                 rotate_left
                 · (simp only [Act.put, List.setIfInBounds_toArray, List.set_cons_zero, List.set_cons_succ]; with_reducible rfl)))
            refine seq_nil ?_
            go_wp2_with fail
            go_roundw
            case rel => exact ⟨k + 1, hlk, by go_num, by rw [HST.out, hsm, Bool.true_or], hki.trans hKc⟩
            case measure => simp [intOf]; omega
        · obtain rfl : k = n := by omega
          cases hs : smB ls m j k
          · have HS0 := Lib.hid (mkM_same (p := fun i => smB ls m i k) hs)
            go_wp2_with fail
            go_roundw
            case rel => exact ⟨j + 1, hlt, by go_num, by rw [HS0.out], hk.trans hki⟩
            case measure => simp [intOf]; omega
          · have hwt := wrap_twoP (j := j) (by omega)
            have hadd := add_twoP (j := j) (by omega) (fun i => smB ls m i k) hs
            go_wp2_with (go_at_call 27; refine (power_any j _ (by omega)).mono ?_; rintro e w3 ⟨rfl, rfl⟩)
            go_roundw
            case rel => exact ⟨j + 1, hlt, by go_num, by first | rfl | rw [hadd], hk.trans hki⟩
            case measure => simp [intOf]; omega
    · obtain rfl : j = n := by omega
      go_wp2_with fail
      go_ret
      exact ⟨by rw [HB.out]; rfl, hk⟩
end Go.Proofs.YtknjekakncjbgabDoor
