/- lattice.At, Below, Down, Close, Closed. -/
import Derived.Test.YtknjekakncjbgabDoorLatFn
import Derived.Test.YtknjekakncjbgabDoorLatMask
import Derived.Test.YtknjekakncjbgabDoorFitSeq
namespace Go.Proofs.YtknjekakncjbgabDoor
open Go.RowKit Go.Shelf

theorem Lat.first {w : World} {p : Nat} {ls : List Lb} (h : Lat w p ls) : ∃ b c, w.cell? ⟨p, 0, none⟩ = some (.slice (some ⟨b, 0, none⟩) ls.length c) ∧ p < w.heap.size ∧ LbS w w.heap.size (some ⟨b, 0, none⟩) ls.length ls := by
  obtain ⟨b, c, m, h1, h2, _⟩ := h.mem
  exact ⟨b, c, by simp [World.cell?, h1], (Array.getElem?_eq_some_iff.1 h1).1, h2⟩

set_option maxHeartbeats 1000000 in
theorem at_yes (p : Nat) (ls : List Lb) (i : Nat) (x : Lb) (w : World) (h : Lat w p ls) (hi : ls[i]? = some x) :
    Calls Tryd.prog 13 #[.pointer (some ⟨p, 0, none⟩), .int .i64 i] w fun e w' => e = .returned (.tuple #[.agg #[.int .u8 x.lv, .int .u16 x.ct], .int .i64 0]) ∧ Keep w w' := by
  obtain ⟨b, c, c0, hp, hl⟩ := h.first
  have hlt : i < ls.length := (List.getElem?_eq_some_iff.1 hi).1
  have h16 := h.len.2
  obtain ⟨b', off', e, hb, d0, d1⟩ := LbS.cells hl i x hi
  cases e
  rw [Nat.zero_add] at d0 d1
  have hw : ∀ o, ((Keep.refl w).alloc o).size = ((Keep.refl w).alloc o).size := fun _ => rfl
  have k := (Keep.refl w).alloc (.cells #[.int .u8 0, .int .u16 0] 25)
  have c0' := (k.cell (p := ⟨p, 0, none⟩) hp).trans c0
  have d0' := (k.cell (p := ⟨b, i * 2, none⟩) hb).trans d0
  have d1' := (k.cell (p := ⟨b, i * 2 + 1, none⟩) hb).trans d1
  have hi0 : ¬ (i : Int) < 0 := by omega
  have hi1 : (i : Int) < (ls.length : Int) := by omega
  clear h hl hi hw k
  go_enter Tryd.func13, Tryd.ntmps13
  go_wp2
  have hz := (LbAt.new w x).cells
  exact bodyPost_ret (v := .tuple #[.agg #[.int .u8 x.lv, .int .u16 x.ct], .int .i64 0]) (by simp [results, Tryd.results13, go_sem, hz.1, hz.2]) rfl ⟨rfl, (Keep.refl w).alloc _⟩

set_option maxHeartbeats 1000000 in
theorem at_no (p : Nat) (ls : List Lb) (i : Int) (w : World) (h : Lat w p ls) (hi : i < 0 ∨ (ls.length : Int) ≤ i) :
    Calls Tryd.prog 13 #[.pointer (some ⟨p, 0, none⟩), .int .i64 i] w fun e w' => e = .returned (.tuple #[.agg #[.int .u8 0, .int .u16 0], .int .i64 30]) ∧ Keep w w' := by
  obtain ⟨b, c, c0, hp, hl⟩ := h.first
  have k := (Keep.refl w).alloc (.cells #[.int .u8 0, .int .u16 0] 25)
  have c0' := (k.cell (p := ⟨p, 0, none⟩) hp).trans c0
  clear h hl k
  rcases Int.lt_or_le i 0 with h0 | h0
  · clear hi
    go_enter Tryd.func13, Tryd.ntmps13
    go_wp2
    have hz := (LbAt.new w ⟨0, 0⟩).cells
    exact bodyPost_ret (v := .tuple #[.agg #[.int .u8 0, .int .u16 0], .int .i64 30]) (by simp [results, Tryd.results13, go_sem, hz.1, hz.2]) rfl ⟨rfl, (Keep.refl w).alloc _⟩
  · have h1 : (ls.length : Int) ≤ i := by omega
    have h2 : ¬ i < 0 := by omega
    clear hi
    go_enter Tryd.func13, Tryd.ntmps13
    go_wp2
    have hz := (LbAt.new w ⟨0, 0⟩).cells
    exact bodyPost_ret (v := .tuple #[.agg #[.int .u8 0, .int .u16 0], .int .i64 30]) (by simp [results, Tryd.results13, go_sem, hz.1, hz.2]) rfl ⟨rfl, (Keep.refl w).alloc _⟩

/-- The mask of the first j. -/
theorem u32_mask {n : Nat} (h : n ≤ 16) (p : Nat → Bool) : mkM n p < 4294967296 := Nat.lt_of_lt_of_le (mkM_lt p n) (Nat.le_trans (pow_bd h) (by decide))

set_option maxRecDepth 100000 in
set_option maxHeartbeats 2000000 in
theorem below_any (p : Nat) (ls : List Lb) (x : Lb) (w : World) (h : Lat w p ls) (hx : x.ok) :
    Calls Tryd.prog 18 #[.pointer (some ⟨p, 0, none⟩), .agg #[.int .u8 x.lv, .int .u16 x.ct]] w fun e w' => e = .returned (.int .u32 (blw ls x)) ∧ Keep w w' := by
  have HOK := Lib.hid h.ok
  obtain ⟨b, c, c0, hp, hl⟩ := h.first
  have h16 := h.len.2
  have c0' := (((Keep.refl w).alloc (.cells #[.int .u8 x.lv, .int .u16 x.ct] 25)).cell (p := ⟨p, 0, none⟩) hp).trans c0
  have HL := Lib.hid hl
  have HA := Lib.hid (LbAt.new w x)
  have HB := Lib.hid (show blw ls x = mkM ls.length (domAt ls x) from rfl)
  clear h hl
  obtain ⟨n, hn⟩ : ∃ n, ls.length = n := ⟨_, rfl⟩
  rw [hn] at c0' h16 HL HB
  have HN := Lib.hid hn
  clear hn c0
  go_enter Tryd.func18, Tryd.ntmps18
  go_wp2_with fail
  go_loopw [5, 13] (fun m i wr => ∃ (j : Nat), j ≤ n ∧ i = .int .i64 j ∧ m = .int .u32 (mkM j (domAt ls x) : Nat) ∧ Keep (w.alloc (.cells #[.int .u8 x.lv, .int .u16 x.ct] 25)) wr) (fun m i _ => n - (intOf i).toNat)
  case atStart => exact ⟨0, Nat.zero_le _, rfl, rfl, Keep.refl _⟩
  case round =>
    obtain ⟨j, hj, rfl, rfl, hk⟩ := hrel
    by_cases hlt : j < n
    · have hlj : j < ls.length := by rw [HN.out]; exact hlt
      have hoj : ls[j]? = some ls[j] := List.getElem?_eq_getElem hlj
      have hyok : ls[j].ok := HOK.out _ (List.getElem_mem hlj)
      generalize ls[j] = y at hoj hyok
      obtain ⟨b', off', e, hb, d0, d1⟩ := LbS.cells ((HL.out.keep ((Keep.refl w).alloc _) (Nat.le_refl _)).keep hk (by simp)) j y hoj
      cases e
      rw [Nat.zero_add] at d0 d1
      have hdo : domAt ls x j = dm x y := by unfold domAt; rw [hoj]
      obtain ⟨a0, a1⟩ := ((HA.out.keep hk).keep ((Keep.refl wr).alloc (.cells #[.int .u8 y.lv, .int .u16 y.ct] 25))).cells
      have hp2 : (2 : Nat) ^ j ≤ 65536 := pow_bd (by omega)
      have hsh : IntKind.u32.wrap (2 ^ j) = ((2 ^ j : Nat) : Int) := by
        have : ((2 ^ j : Nat) : Int) = (2 : Int) ^ j := by simp
        rw [← this, IntKind.wrap_u32]
        generalize (2 ^ j : Nat) = q at hp2
        omega
      have hm := u32_mask (n := j) (by omega) (domAt ls x)
      have hor : bits BinOp.or IntKind.u32 ((mkM j (domAt ls x) : Nat) : Int) ((2 : Int) ^ j) = ((mkM j (domAt ls x) ||| 2 ^ j : Nat) : Int) := by
        have := u32_or _ (2 ^ j) hm (by omega)
        rwa [show ((2 ^ j : Nat) : Int) = (2 : Int) ^ j by simp] at this
      have HOR := Lib.hid hor
      clear hor
      have hj63 : (j : Int) ≤ 16 := by omega
      have HO := Lib.hid hdo
      clear hoj hdo
      cases hd : dm x y
      · go_wp2_with (go_at_call 29; refine (dom_any x y _ hx hyok).mono ?_; rintro e w1 ⟨rfl, hk1⟩; rw [hd])
        go_roundw
        case rel => exact ⟨j + 1, hlt, by go_num, by rw [mkM, HO.out, hd]; simp, (hk.alloc _).trans hk1⟩
        case measure => simp [intOf]; omega
      · go_wp2_with (go_at_call 29; refine (dom_any x y _ hx hyok).mono ?_; rintro e w1 ⟨rfl, hk1⟩; rw [hd])
        go_roundw
        case rel => exact ⟨j + 1, hlt, by go_num, by rw [HOR.out, mkM, HO.out, hd]; rfl, (hk.alloc _).trans hk1⟩
        case measure => simp [intOf]; omega
    · obtain rfl : j = n := by omega
      go_wp2
      go_ret
      exact ⟨by rw [HB.out]; rfl, ((Keep.refl w).alloc _).trans hk⟩

theorem down_yes (p : Nat) (ls : List Lb) (i : Nat) (w : World) (h : Lat w p ls) (hi : i < ls.length) :
    Calls Tryd.prog 17 #[.pointer (some ⟨p, 0, none⟩), .int .i64 i] w fun e w' => e = .returned (.int .u32 (dwn ls i)) ∧ Keep w w' := by
  have hoj : ls[i]? = some ls[i] := List.getElem?_eq_getElem hi
  have hxok : ls[i].ok := h.ok _ (List.getElem_mem hi)
  generalize ls[i] = x at hoj hxok
  have HD := Lib.hid (dwn_some hoj)
  have H := Lib.hid h
  have HO := Lib.hid hoj
  clear h hoj
  go_enter Tryd.func17, Tryd.ntmps17
  go_wp2_with (first
    | (go_at_call 13; refine (at_yes p ls i x _ H.out HO.out).mono ?_; rintro e w1 ⟨rfl, hk1⟩; obtain ⟨d0, d1⟩ := (LbAt.new w1 x).cells)
    | (go_at_call 18; refine (below_any p ls x _ (H.out.keep (hk1.alloc _)) hxok).mono ?_; rintro e w2 ⟨rfl, hk2⟩))
  go_ret
  exact ⟨by rw [HD.out]; rfl, (hk1.alloc _).trans hk2⟩
theorem down_no (p : Nat) (ls : List Lb) (i : Int) (w : World) (h : Lat w p ls) (hi : i < 0 ∨ (ls.length : Int) ≤ i) :
    Calls Tryd.prog 17 #[.pointer (some ⟨p, 0, none⟩), .int .i64 i] w fun e w' => e = .returned (.int .u32 0) ∧ Keep w w' := by
  go_enter Tryd.func17, Tryd.ntmps17
  go_wp2_with (go_at_call 13; refine (at_no p ls i _ h hi).mono ?_; rintro e w1 ⟨rfl, hk1⟩)
  go_ret
  exact ⟨rfl, hk1.alloc _⟩
theorem down_nat (p : Nat) (ls : List Lb) (i : Nat) (w : World) (h : Lat w p ls) :
    Calls Tryd.prog 17 #[.pointer (some ⟨p, 0, none⟩), .int .i64 i] w fun e w' => e = .returned (.int .u32 (dwn ls i)) ∧ Keep w w' := by
  rcases Nat.lt_or_ge i ls.length with hi | hi
  · exact down_yes p ls i w h hi
  · rw [dwn_none hi]
    exact down_no p ls i w h (.inr (by omega))
end Go.Proofs.YtknjekakncjbgabDoor
