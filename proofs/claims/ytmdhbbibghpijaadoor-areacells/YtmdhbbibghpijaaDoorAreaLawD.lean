/- AreaCells: each span that comes is of keys that are in the area, at both its ends, and not right ahead, or behind; labels rise; together they are the area. -/
import Derived.Test.YtmdhbbibghpijaaDoorAreaListM
import Derived.Test.YtmdhbbibghpijaaDoorAreaArg2
import Derived.Test.YtmdhbbibghpijaaDoorAreaTells
import Derived.Test.YtmdhbbibghpijaaDoorSeqR
import Derived.Deep.CutRange
namespace Go.Proofs.YtmdhbbibghpijaaDoor
open Go.RowKit

theorem cls_get : ∀ (xs : List (Int × Sp)) (j : Nat) (x : Int × Sp), xs[j]? = some x → (cls xs)[j * 3]? = some (.int .i64 x.1) ∧ (cls xs)[j * 3 + 1]? = some (.int .u32 x.2.lo) ∧ (cls xs)[j * 3 + 2]? = some (.int .u32 x.2.hi)
  | [], j, x, h => by simp at h
  | y :: xs, 0, x, h => by
    simp at h
    subst h
    simp [cls, clc]
  | y :: xs, j + 1, x, h => by
    have ih := cls_get xs j x (by simpa using h)
    have e : cls (y :: xs) = clc y ++ cls xs := by simp [cls]
    have hl : (clc y).length = 3 := rfl
    rw [e, show (j + 1) * 3 = 3 + j * 3 by omega, show 3 + j * 3 + 1 = 3 + (j * 3 + 1) by omega, show 3 + j * 3 + 2 = 3 + (j * 3 + 2) by omega]
    rw [List.getElem?_append_right (by omega), List.getElem?_append_right (by omega), List.getElem?_append_right (by omega), hl]
    simpa using ih
theorem cls_length : ∀ xs : List (Int × Sp), (cls xs).length = xs.length * 3
  | [] => rfl
  | x :: xs => by
    have e : cls (x :: xs) = clc x ++ cls xs := by simp [cls]
    rw [e, List.length_append, cls_length xs, List.length_cons]
    have hl : (clc x).length = 3 := rfl
    omega
theorem row3_cells {w : World} {base n c : Nat} {A : Option Addr} {xs : List (Int × Sp)} (h : w.ownsRow base 39 3 (.slice A n c) n (cls xs)) {j : Nat} {x : Int × Sp} (hx : xs[j]? = some x) :
    ∃ g, A = some ⟨g, 0, none⟩ ∧ g < w.heap.size ∧ w.cell? ⟨g, j * 3, none⟩ = some (.int .i64 x.1) ∧ w.cell? ⟨g, j * 3 + 1, none⟩ = some (.int .u32 x.2.lo) ∧ w.cell? ⟨g, j * 3 + 2, none⟩ = some (.int .u32 x.2.hi) := by
  have hj := (List.getElem?_eq_some_iff.1 hx).1
  have hn : xs.length = n := by have := h.1; rw [cls_length] at this; omega
  rcases h.2 with ⟨_, h0⟩ | ⟨g, cap, cur, e, hb, hblk, h1, h2, h3, h4⟩
  · omega
  · cases e
    obtain ⟨p0, p1, p2⟩ := cls_get xs j x hx
    have h4' : cur.toList.take (n * 3) = cls xs := h4
    have get : ∀ q, q < n * 3 → (cls xs)[q]? = cur[q]? := fun q hq => by rw [← h4', List.getElem?_take, if_pos hq, Array.getElem?_toList]
    refine ⟨g, rfl, (Array.getElem?_eq_some_iff.1 hblk).1, ?_, ?_, ?_⟩
    · rw [← p0, get _ (by omega)]; simp [World.cell?, hblk]
    · rw [← p1, get _ (by omega)]; simp [World.cell?, hblk]
    · rw [← p2, get _ (by omega)]; simp [World.cell?, hblk]
theorem three_new (w : World) (a b c : Obj) : ∃ W, W = ((w.alloc a).alloc b).alloc c ∧ W.heap[w.heap.size]? = some a ∧ W.heap[w.heap.size + 1]? = some b ∧ W.heap[w.heap.size + 2]? = some c ∧ Keep w W ∧ W.heap.size = w.heap.size + 3 := by
  refine ⟨_, rfl, ?_, ?_, ?_, (((Keep.refl w).alloc a).alloc b).alloc c, by simp⟩
  · have h1 := World.alloc_heap_new w a
    have k1 := ((Keep.refl (w.alloc a)).alloc b).alloc c
    exact (k1.block _ (by simp)).trans h1
  · have h1 := World.alloc_heap_new (w.alloc a) b
    have k1 := (Keep.refl ((w.alloc a).alloc b)).alloc c
    rw [World.size_alloc] at h1
    exact (k1.block _ (by simp)).trans h1
  · have h1 := World.alloc_heap_new ((w.alloc a).alloc b) c
    simpa using h1
/-- Two blocks beside each other, whichever came first. -/
def TwoC (X : World) (a b : Obj) (p q : Nat) (W : World) : Prop := p ≠ q ∧ X.heap.size ≤ p ∧ X.heap.size ≤ q ∧ W.heap[p]? = some a ∧ W.heap[q]? = some b ∧ Keep X W ∧ p < W.heap.size ∧ q < W.heap.size
theorem twoC_ab {X : World} {n : Nat} (a b : Obj) (hs : X.heap.size = n) : TwoC X a b n (n + 1) ((X.alloc a).alloc b).drew := by
  subst hs
  have h1 := World.alloc_heap_new X a
  have k1 := (Keep.refl (X.alloc a)).alloc b
  have h2 := World.alloc_heap_new (X.alloc a) b
  rw [World.size_alloc] at h2
  have kd := (Keep.refl ((X.alloc a).alloc b)).drew
  have hz : ((X.alloc a).alloc b).heap.size = X.heap.size + 2 := by simp
  refine ⟨by omega, Nat.le_refl _, by omega, (kd.block _ (by omega)).trans ((k1.block _ (by simp)).trans h1), (kd.block _ (by omega)).trans h2, (((Keep.refl X).alloc a).alloc b).drew, ?_, ?_⟩
  · have := kd.size; omega
  · have := kd.size; omega
theorem twoC_ba {X : World} {n : Nat} (a b : Obj) (hs : X.heap.size = n) : TwoC X a b (n + 1) n ((X.alloc b).alloc a).drew := by
  obtain ⟨h1, h2, h3, h4, h5, h6, h7, h8⟩ := twoC_ab b a hs
  exact ⟨fun e => h1 e.symm, h3, h2, h5, h4, h6, h8, h7⟩
theorem set_cells {w : World} {b : Nat} {a c v : Value} {t : TypeId} (h : w.heap[b]? = some (.cells #[a, c] t (0, 0))) : (w.setCell ⟨b, 1, none⟩ v).heap[b]? = some (.cells #[a, v] t (0, 0)) := set_row h 1 v
theorem set_other {w : World} {b q : Nat} {v : Value} {o : Obj} (h : w.heap[q]? = some o) (hne : q ≠ b) : (w.setCell ⟨b, 1, none⟩ v).heap[q]? = some o :=
  (((Only.refl (fun k => k = b) w).setCell ⟨b, 1, none⟩ v rfl).block q (Array.getElem?_eq_some_iff.1 h).1 hne).trans h
theorem whF_next {L : List (Int × Sp)} {j i : Nat} {lo hi : Int} (h : L[j]? = some ((i : Int), ⟨lo, hi⟩)) (hi16 : i < 16) (q : Nat) (k : Int) : (whF (L.take j) q k || (decide (q < 16) && (2 ^ i).testBit q && hasB [⟨lo, hi⟩] k)) = whF (L.take (j + 1)) q k := by
  rw [List.take_add_one, h, Option.toList_some, whF_snoc, e_has, Nat.testBit_two_pow]
  by_cases hq : q = i
  · subst hq
    simp [hi16]
  · have h1 : ¬ (i : Int) = (q : Int) := by omega
    have h2 : ¬ i = q := fun e => hq e.symm
    simp [h1, h2]
theorem rise_at {R : Nat → List Sp} {n : Nat} {j : Nat} {x y : Int × Sp} (hx : (cellsL R n)[j + 1]? = some x) (hy : (cellsL R n)[j]? = some y) : y.1 ≤ x.1 := by
  obtain ⟨h1, rfl⟩ := List.getElem?_eq_some_iff.1 hx
  obtain ⟨h2, rfl⟩ := List.getElem?_eq_some_iff.1 hy
  exact List.pairwise_iff_getElem.1 (cellsL_rise R n) j (j + 1) h2 h1 (by omega)
/-- The areas together, so far. -/
def WhI (L : List (Int × Sp)) (j : Nat) (v : Value) (W : World) : Prop := ∃ A n c, v = .slice A n c ∧ n ≤ 16 ∧ Area W A n j (whF (L.take j))

set_option maxRecDepth 100000 in
set_option maxHeartbeats 16000000 in
theorem cells_few {w : World} {A : Option Addr} {na ca : Nat} {za : List (List Sp)} (ra : AArg w A na ca za) (ea : fewB za = true) (h16 : na ≤ 16) (hT : Tab w) :
    Calls Tryd.prog 7 #[.slice A na ca] w fun e w' => e = .returned (.bool true) ∧ Keep w w' := by
  have h16i : ¬ (16 : Int) < (na : Int) := by omega
  have hE := Lib.hid ea
  have fa := ra.area (fewB_yes ea).1
  obtain ⟨R, hR⟩ := area_sets_le fa (by decide)
  have hlen := cellsL_length (R := R) (N := 20) (n := na) (fun i hi => (hR i hi).2)
  have HL := Lib.hid (show (cellsL R na).length ≤ 320 by omega)
  have HR := Lib.hid (fun i hi => (hR i hi).1)
  have Ha := Lib.hid ra
  have HT := Lib.hid hT
  have hKc := Keep.refl w
  clear ra ea hT fa hR hlen
  go_enter Tryd.func7, Tryd.ntmps7
  go_wp2_with fail
  go_at_call 8
  refine (alive_any _ HT.out).mono ?_
  rintro e w1 ⟨rfl, hk⟩
  replace Ha := Lib.hid (Ha.out.keep hk)
  replace HT := Lib.hid (HT.out.below HT.out.pos hk)
  replace hKc := hKc.trans hk
  clear hk
  go_wp2_with fail
  go_at_call 9
  refine (few_a Ha.out).mono ?_
  rintro e wf ⟨rfl, rfl⟩
  rw [hE.out]
  replace Ha := Lib.hid (Ha.out.area (fewB_yes hE.out).1)
  go_wp2_with fail
  go_at_call 19
  obtain ⟨L, hLdef⟩ : ∃ L, L = cellsL R na := ⟨_, rfl⟩
  have HLD := Lib.hid hLdef
  have hlc := list_some (ca := ca) Ha.out HR.out (by omega) (by decide) (by have := HL.out; omega) 10000 (by decide) (by decide)
  rw [List.take_of_length_le (by have := HL.out; omega), ← hLdef] at hlc
  rw [← hLdef] at HL
  clear hLdef
  refine hlc.mono ?_
  rintro e w2 ⟨Al, cl, rfl, hrow, hk⟩
  replace Ha := Lib.hid (Ha.out.keep hk)
  replace HT := Lib.hid (HT.out.below HT.out.pos hk)
  replace hKc := hKc.trans hk
  have HROW := Lib.hid hrow
  have HKC := Lib.hid hKc
  obtain ⟨n, hn⟩ : ∃ n, n = L.length := ⟨_, rfl⟩
  rw [← hn] at HROW HL
  have HN := Lib.hid hn
  clear hk hrow hKc hlc
  have hn320 : (n : Int) ≤ 320 := by have := HL.out; omega
  rw [← hn]
  clear hn
  go_wp2_with fail
  go_loopw [4, 25] (fun wv i wr => ∃ (j : Nat), i = .int .i64 j ∧ j ≤ n ∧ Hid (WhI L j wv wr) ∧ Hid (Keep w2 wr)) (fun _ i _ => n - (intOf i).toNat)
  case atStart => exact ⟨0, rfl, Nat.zero_le _, Lib.hid ⟨none, 0, 0, rfl, by decide, (area_nil w2 none 0).congr (fun i k => by simp [whF])⟩, Lib.hid (Keep.refl _)⟩
  case round =>
    obtain ⟨j, rfl, hj, HW, HK⟩ := hrel
    by_cases hlt : j < n
    · obtain ⟨x, hx⟩ : ∃ x, L[j]? = some x := ⟨_, List.getElem?_eq_getElem (by rw [← HN.out]; exact hlt)⟩
      obtain ⟨i, hia, hxi, hxs⟩ := mem_cellsL.1 (show x ∈ cellsL R na by rw [← HLD.out]; exact List.mem_of_getElem? hx)
      obtain ⟨x1, ⟨lo, hi⟩⟩ := x
      dsimp only at hxi hxs
      subst hxi
      have hsp := span_of (HR.out i hia) hxs
      dsimp only at hsp
      obtain ⟨g, e, hg, d0, d1, d2⟩ := row3_cells HROW.out hx
      subst e
      dsimp only at d0 d1 d2
      have HX := Lib.hid hx
      have HSP := Lib.hid hsp
      have hji : (j : Int) < (n : Int) := by omega
      have hi16 : i < 16 := by omega
      clear hx hxs hsp
      replace d0 := (HK.out.cell (p := ⟨g, j * 3, none⟩) hg).trans d0
      replace d1 := (HK.out.cell (p := ⟨g, j * 3 + 1, none⟩) hg).trans d1
      replace d2 := (HK.out.cell (p := ⟨g, j * 3 + 2, none⟩) hg).trans d2
      go_upto_region 12 with fail
      obtain ⟨X3, hX3⟩ : ∃ X3, X3 = ((wr.alloc (.cells #[.int .i64 i, .int .u32 lo, .int .u32 hi] 39)).alloc (.cells #[.int .i64 i, .int .u32 lo] 25)).alloc (.cells #[.int .i64 i, .int .u32 hi] 25) := ⟨_, rfl⟩
      obtain ⟨W3, e3, h31, h32, h33, h34, h35⟩ := three_new wr (.cells #[.int .i64 i, .int .u32 lo, .int .u32 hi] 39) (.cells #[.int .i64 i, .int .u32 lo] 25) (.cells #[.int .i64 i, .int .u32 hi] 25)
      rw [← e3] at hX3 ⊢
      subst hX3
      clear e3
      have HK3 := Lib.hid h34
      have HC3 := Lib.hid (show ∀ X, Keep X3 X → X.heap[wr.heap.size]? = some (.cells #[.int .i64 i, .int .u32 lo, .int .u32 hi] 39 (0, 0)) ∧ X.heap[wr.heap.size + 1]? = some (.cells #[.int .i64 i, .int .u32 lo] 25 (0, 0)) ∧ X.heap[wr.heap.size + 2]? = some (.cells #[.int .i64 i, .int .u32 hi] 25 (0, 0)) from
        fun X hX => ⟨(hX.block _ (by omega)).trans h31, (hX.block _ (by omega)).trans h32, (hX.block _ (by omega)).trans h33⟩)
      clear h31 h32 h33 h34 d0 d1 d2
      go_cut [9, 10] from 42 to 43 (fun s9 s10 wx => ∃ p9 p10, s9 = .pointer (some ⟨p9, 0, none⟩) ∧ s10 = .pointer (some ⟨p10, 0, none⟩) ∧ TwoC X3 (.cells #[.int .i64 i, .int .u32 lo] 25) (.cells #[.int .i64 i, .int .u32 hi] 25) p9 p10 wx)
      case first =>
        obtain ⟨-, g1, g2⟩ := HC3.out X3 (Keep.refl _)
        have e1 : X3.cell? ⟨wr.heap.size + 1, 0, none⟩ = some (.int .i64 i) := by simp [World.cell?, g1]
        have e2 : X3.cell? ⟨wr.heap.size + 1, 1, none⟩ = some (.int .u32 lo) := by simp [World.cell?, g1]
        have e3 : X3.cell? ⟨wr.heap.size + 2, 0, none⟩ = some (.int .i64 i) := by simp [World.cell?, g2]
        have e4 : X3.cell? ⟨wr.heap.size + 2, 1, none⟩ = some (.int .u32 hi) := by simp [World.cell?, g2]
        clear g1 g2
        go_region_with (fail)
        all_goals (go_wp2_with fail; go_meet)
        all_goals first | exact ⟨_, _, rfl, rfl, twoC_ab _ _ h35⟩ | exact ⟨_, _, rfl, rfl, twoC_ba _ _ h35⟩
      case rest =>
        obtain ⟨p9, p10, rfl, rfl, t1, t2, t3, t4, t5, t6, t7, t8⟩ := hcut
        have c90 : wc.cell? ⟨p9, 0, none⟩ = some (.int .i64 i) := by simp [World.cell?, t4]
        have c91 : wc.cell? ⟨p9, 1, none⟩ = some (.int .u32 lo) := by simp [World.cell?, t4]
        have f91 : wc.frozen? ⟨p9, 1, none⟩ = false := by simp [World.frozen?, t4]
        have c101 : wc.cell? ⟨p10, 1, none⟩ = some (.int .u32 hi) := by simp [World.cell?, t5]
        have f101 : wc.frozen? ⟨p10, 1, none⟩ = false := by simp [World.frozen?, t5]
        go_upto_region 15 with fail
        have hY1 : Keep X3 ((wc.setCell ⟨p9, 1, none⟩ (.int .u32 ((lo - 1) % 4294967296))).setCell ⟨p10, 1, none⟩ (.int .u32 ((hi + 1) % 4294967296))) :=
          Only.keep t6 (((Only.refl (fun k => X3.heap.size ≤ k) wc).setCell _ _ t2).setCell _ _ t3) (fun k hk => by omega)
        have hY2 := set_cells (v := .int .u32 ((lo - 1) % 4294967296)) t4
        have hY3 := set_other (b := p9) (v := .int .u32 ((lo - 1) % 4294967296)) t5 (fun e => t1 e.symm)
        have hY4 := set_other (b := p10) (v := .int .u32 ((hi + 1) % 4294967296)) hY2 t1
        have hY5 := set_cells (v := .int .u32 ((hi + 1) % 4294967296)) hY3
        clear hY2 hY3 c90 c91 f91 c101 f101 t1 t2 t3 t4 t5 t6 t7 t8
        obtain ⟨k9, hk9⟩ : ∃ k9, k9 = (lo - 1) % 4294967296 := ⟨_, rfl⟩
        obtain ⟨k10, hk10⟩ : ∃ k10, k10 = (hi + 1) % 4294967296 := ⟨_, rfl⟩
        rw [← hk9, ← hk10] at hY1 hY4 hY5 ⊢
        have HKS := Lib.hid (And.intro hk9 hk10)
        obtain ⟨Y, hY⟩ : ∃ Y, Y = (wc.setCell ⟨p9, 1, none⟩ (.int .u32 k9)).setCell ⟨p10, 1, none⟩ (.int .u32 k10) := ⟨_, rfl⟩
        rw [← hY] at hY1 hY4 hY5 ⊢
        clear hY hk9 hk10
        have hKY : Keep w2 Y := (HK.out.trans HK3.out).trans hY1
        have HKX := Lib.hid hY1
        have HKY := Lib.hid hKY
        obtain ⟨b0, b1, b2⟩ := HC3.out Y hY1
        have hl1 := (Array.getElem?_eq_some_iff.1 b0).1
        have hl2 := (Array.getElem?_eq_some_iff.1 b1).1
        have hl3 := (Array.getElem?_eq_some_iff.1 b2).1
        have hl4 := (Array.getElem?_eq_some_iff.1 hY4).1
        have hl5 := (Array.getElem?_eq_some_iff.1 hY5).1
        have HBX := Lib.hid (show ∀ X, Keep Y X → (X.cell? ⟨wr.heap.size, 0, none⟩ = some (.int .i64 i) ∧ X.cell? ⟨wr.heap.size, 1, none⟩ = some (.int .u32 lo) ∧ X.cell? ⟨wr.heap.size, 2, none⟩ = some (.int .u32 hi)) ∧
            (X.cell? ⟨wr.heap.size + 1, 0, none⟩ = some (.int .i64 i) ∧ X.cell? ⟨wr.heap.size + 1, 1, none⟩ = some (.int .u32 lo)) ∧ (X.cell? ⟨wr.heap.size + 2, 0, none⟩ = some (.int .i64 i) ∧ X.cell? ⟨wr.heap.size + 2, 1, none⟩ = some (.int .u32 hi)) ∧
            (X.cell? ⟨p9, 0, none⟩ = some (.int .i64 i) ∧ X.cell? ⟨p9, 1, none⟩ = some (.int .u32 k9)) ∧ (X.cell? ⟨p10, 0, none⟩ = some (.int .i64 i) ∧ X.cell? ⟨p10, 1, none⟩ = some (.int .u32 k10)) from fun X hX => by
          have q0 := (hX.block _ hl1).trans b0
          have q1 := (hX.block _ hl2).trans b1
          have q2 := (hX.block _ hl3).trans b2
          have q3 := (hX.block _ hl4).trans hY4
          have q4 := (hX.block _ hl5).trans hY5
          refine ⟨⟨?_, ?_, ?_⟩, ⟨?_, ?_⟩, ⟨?_, ?_⟩, ⟨?_, ?_⟩, ?_, ?_⟩ <;> simp [World.cell?, q0, q1, q2, q3, q4])
        clear b0 b1 b2 hl1 hl2 hl3 hl4 hl5 hY1 hY4 hY5 hKY HC3
        have HaY := Lib.hid (Ha.out.keep HKY.out)
        go_cut [105] from 52 to 104 (fun s105 wx => s105 = .bool false ∧ Keep Y wx)
        case first =>
          obtain ⟨s1, s2, s3, s4, s5, s6⟩ := HSP.out
          obtain ⟨⟨o1, o2⟩, o3, o4⟩ := s2
          dsimp only at o1 o2 o3 o4
          have hhl : decide (hi < lo) = false := decide_eq_false (by omega)
          have F1 := Lib.hid (show fz (arF za) (i : Int) lo = true by rw [fz_nat]; exact s3)
          have F2 := Lib.hid (show fz (arF za) (i : Int) hi = true by rw [fz_nat]; exact s4)
          have F3 := Lib.hid (show 0 < lo → fz (arF za) (i : Int) k9 = false from fun h => by rw [fz_nat, HKS.out.1, show (lo - 1) % 4294967296 = lo - 1 by omega]; exact s5)
          have F4 := Lib.hid (show 0 < k10 → fz (arF za) (i : Int) k10 = false from fun h => by rw [fz_nat, HKS.out.2, show (hi + 1) % 4294967296 = hi + 1 by have := HKS.out.2; omega]; exact s6)
          clear s1 s3 s4 s5 s6 o1 o2 o3 o4
          have hKc := (Keep.refl Y).drew
          by_cases hjz : j = 0
          · subst hjz
            have hj0 : decide ((0 : Int) < ((0 : Nat) : Int)) = false := rfl
            have HBOX := HBX
            by_cases hlo : 0 < lo
            · have HLO := Lib.hid hlo
              have hlb : decide ((0 : Int) < lo) = true := decide_eq_true hlo
              clear hlo
              by_cases hhi : 0 < k10
              · have HHI := Lib.hid hhi
                have hhb : decide ((0 : Int) < k10) = true := decide_eq_true hhi
                clear hhi
                refine seq_region (S := fun w' => Keep Y w') [⟨0, 64, 4503599627370496⟩, ⟨1, 4503599627370496, 9007199254740992⟩, ⟨2, 9007199254740992, 18014398509481984⟩, ⟨0, 64, 36028797018963968⟩, ⟨8, 36028797018963968, 72057594037927936⟩, ⟨16, 72057594037927936, 144115188075855872⟩, ⟨36, 162129586585337856, 288230376151711744⟩, ⟨64, 288230376151711744, 576460752303423488⟩, ⟨128, 576460752303423489, 1152921504606846976⟩, ⟨128, 576460752303423616, 2305843009213693952⟩, ⟨896, 4035225266123964416, 4611686018427387904⟩, ⟨1152, 5188146770730811392, 9223372036854775808⟩, ⟨2176, 9799832789158199296, 18446744073709551616⟩, ⟨5120, 18446744073709551616, 36893488147419103232⟩, ⟨8192, 36893488147419103233, 73786976294838206464⟩, ⟨8192, 36893488147419103488, 147573952589676412928⟩, ⟨57344, 258254417031933722624, 295147905179352825856⟩, ⟨73728, 332041393326771929088, 590295810358705651712⟩, ⟨139264, 627189298506124754944, 1180591620717411303424⟩, ⟨327680, 1180591620717411303424, 2361183241434822606848⟩, ⟨524288, 2361183241434822606976, 4722366482869645213696⟩, ⟨1572864, 7083549724304467820544, 9444732965739290427392⟩, ⟨2621440, 11805916207174113034240, 18889465931478580854784⟩, ⟨4718592, 21250649172913403461632, 37778931862957161709568⟩, ⟨8388608, 37778931862957161709569, 75557863725914323419136⟩, ⟨8388608, 37778931862957161710080, 151115727451828646838272⟩, ⟨58720256, 264452523040700131966976, 302231454903657293676544⟩, ⟨76021760, 342371570008049277992960, 604462909807314587353088⟩, ⟨134742016, 606824093048749409959936, 1208925819614629174706176⟩, ⟨335544320, 1208925819614629174706176, 2417851639229258349412352⟩, ⟨536870912, 2417851639229258349413376, 4835703278458516698824704⟩, ⟨1610612736, 7253554917687775048237056, 9671406556917033397649408⟩, ⟨2684354560, 12089258196146291747061760, 19342813113834066795298816⟩, ⟨4831838208, 21760664753063325144711168, 38685626227668133590597632⟩, ⟨8589934592, 38685626227668133590597633, 77371252455336267181195264⟩, ⟨8589934592, 38685626227668133590598656, 154742504910672534362390528⟩, ⟨60129542144, 270799383593676935134183424, 309485009821345068724781056⟩, ⟨77846282240, 350588487688242460664791040, 618970019642690137449562112⟩, ⟨137975824384, 621387871281919395798974464, 1237940039285380274899124224⟩, ⟨343597383680, 1237940039285380274899124224, 2475880078570760549798248448⟩, ⟨549755813888, 2475880078570760549798248480, 4951760157141521099596496896⟩, ⟨1649267441664, 7427640235712281649394745344, 9903520314283042199192993792⟩, ⟨2748779069440, 12379400392853802748991242240, 19807040628566084398385987584⟩, ⟨4398046511104, 19807040628566084398385987592, 39614081257132168796771975168⟩, ⟨4398046511104, 19807040628566084398385987616, 79228162514264337593543950336⟩, ⟨21990232555520, 99035203142830421991929937920, 158456325028528675187087900672⟩, ⟨48378511622144, 217877446914226928382245863424, 316912650057057350374175801344⟩, ⟨74766790688768, 336719690685623434772561788928, 633825300114114700748351602688⟩, ⟨145135534866432, 653632340742680785146737590272, 1267650600228229401496703205376⟩, ⟨4398046511104, 19807040628566084398385987648, 2535301200456458802993406410752⟩, ⟨567347999932416, 2555108241085024887391792398336, 5070602400912917605986812821504⟩, ⟨1411772930064384, 6358060041769713091881902014464, 10141204801825835211973625643008⟩, ⟨2256747616010240, 10163487722532972056921809879040, 20282409603651670423947251286016⟩, ⟨4504149383184384, 20284885483730241184497049534464, 40564819207303340847894502572032⟩] [(0, false), (1, false), (2, false), (3, false), (4, false), (5, false), (6, false), (7, false), (8, false), (9, false), (10, true), (11, false), (12, false), (13, false), (14, false), (15, false), (16, true), (17, false), (18, false), (19, false), (20, false), (21, false), (22, false), (23, false), (24, false), (25, false), (26, true), (27, false), (28, false), (29, false), (30, false), (31, false), (32, false), (33, false), (34, false), (35, false), (36, true), (37, false), (38, false), (39, false), (40, false), (41, false), (42, false), (43, false), (44, false), (45, false), (46, false), (47, false), (48, false), (49, false), (50, false), (51, false), (52, false), (53, false)] rfl (by kernel_rfl) (by kernel_rfl) (fun _ _ d _ _ h => by cases d <;> exact h) hKc ?_
                simp only [rowsOf, rowAt, gslot, List.map_cons, List.map_nil, List.getElem?_toArray, List.getElem?_cons_zero, List.getElem?_cons_succ]
                repeat (first
                  | (refine seq_take (v := ?_) (a' := ?_) (by rfl) ?_ ?_ ?_
                     rotate_left 2
                     · (intro w hSw; have hcs := HBOX.out w hSw; clear hSw; go_split_ands; go_simp; with_reducible rfl)
                     · (simp only [Act.put, List.setIfInBounds_toArray, List.set_cons_zero, List.set_cons_succ]; with_reducible rfl))
                  | (refine seq_skip (a' := ?_) hKc (by rfl) ?_ ?_
                     rotate_left
                     · (simp only [Act.put, List.setIfInBounds_toArray, List.set_cons_zero, List.set_cons_succ]; with_reducible rfl)))
                refine seq_callR (R := fun _ => True) (f := 20) (args := ?_) (v := ?_) (a' := ?_) (by rfl) (by rfl) (by rfl) Tryd.call20 ?_ ?_ ?_ ?_
                rotate_left 3
                · (go_simp; with_reducible rfl)
                · ((with_reducible refine Calls.mono (has_v (i : Int) lo true (HaY.out.keep hKc) (by decide) F1.out) ?_)
                   rintro e w' ⟨rfl, hk⟩
                   refine ⟨?_, hKc.trans hk, trivial⟩
                   with_reducible rfl)
                · (simp only [Act.put, List.setIfInBounds_toArray, List.set_cons_zero, List.set_cons_succ]; with_reducible rfl)
                clear hKc
                intro wn hKc _
                repeat (first
                  | (refine seq_take (v := ?_) (a' := ?_) (by rfl) ?_ ?_ ?_
                     rotate_left 2
                     · (intro w hSw; have hcs := HBOX.out w hSw; clear hSw; go_split_ands; go_simp; with_reducible rfl)
                     · (simp only [Act.put, List.setIfInBounds_toArray, List.set_cons_zero, List.set_cons_succ]; with_reducible rfl))
                  | (refine seq_skip (a' := ?_) hKc (by rfl) ?_ ?_
                     rotate_left
                     · (simp only [Act.put, List.setIfInBounds_toArray, List.set_cons_zero, List.set_cons_succ]; with_reducible rfl)))
                refine seq_callR (R := fun _ => True) (f := 20) (args := ?_) (v := ?_) (a' := ?_) (by rfl) (by rfl) (by rfl) Tryd.call20 ?_ ?_ ?_ ?_
                rotate_left 3
                · (go_simp; with_reducible rfl)
                · ((with_reducible refine Calls.mono (has_v (i : Int) hi true (HaY.out.keep hKc) (by decide) F2.out) ?_)
                   rintro e w' ⟨rfl, hk⟩
                   refine ⟨?_, hKc.trans hk, trivial⟩
                   with_reducible rfl)
                · (simp only [Act.put, List.setIfInBounds_toArray, List.set_cons_zero, List.set_cons_succ]; with_reducible rfl)
                clear hKc
                intro wn hKc _
                repeat (first
                  | (refine seq_take (v := ?_) (a' := ?_) (by rfl) ?_ ?_ ?_
                     rotate_left 2
                     · (intro w hSw; have hcs := HBOX.out w hSw; clear hSw; go_split_ands; go_simp; with_reducible rfl)
                     · (simp only [Act.put, List.setIfInBounds_toArray, List.set_cons_zero, List.set_cons_succ]; with_reducible rfl))
                  | (refine seq_skip (a' := ?_) hKc (by rfl) ?_ ?_
                     rotate_left
                     · (simp only [Act.put, List.setIfInBounds_toArray, List.set_cons_zero, List.set_cons_succ]; with_reducible rfl)))
                refine seq_callR (R := fun _ => True) (f := 20) (args := ?_) (v := ?_) (a' := ?_) (by rfl) (by rfl) (by rfl) Tryd.call20 ?_ ?_ ?_ ?_
                rotate_left 3
                · (go_simp; with_reducible rfl)
                · ((with_reducible refine Calls.mono (has_v (i : Int) k9 false (HaY.out.keep hKc) (by decide) (F3.out HLO.out)) ?_)
                   rintro e w' ⟨rfl, hk⟩
                   refine ⟨?_, hKc.trans hk, trivial⟩
                   with_reducible rfl)
                · (simp only [Act.put, List.setIfInBounds_toArray, List.set_cons_zero, List.set_cons_succ]; with_reducible rfl)
                clear hKc
                intro wn hKc _
                repeat (first
                  | (refine seq_take (v := ?_) (a' := ?_) (by rfl) ?_ ?_ ?_
                     rotate_left 2
                     · (intro w hSw; have hcs := HBOX.out w hSw; clear hSw; go_split_ands; go_simp; with_reducible rfl)
                     · (simp only [Act.put, List.setIfInBounds_toArray, List.set_cons_zero, List.set_cons_succ]; with_reducible rfl))
                  | (refine seq_skip (a' := ?_) hKc (by rfl) ?_ ?_
                     rotate_left
                     · (simp only [Act.put, List.setIfInBounds_toArray, List.set_cons_zero, List.set_cons_succ]; with_reducible rfl)))
                refine seq_callR (R := fun _ => True) (f := 20) (args := ?_) (v := ?_) (a' := ?_) (by rfl) (by rfl) (by rfl) Tryd.call20 ?_ ?_ ?_ ?_
                rotate_left 3
                · (go_simp; with_reducible rfl)
                · ((with_reducible refine Calls.mono (has_v (i : Int) k10 false (HaY.out.keep hKc) (by decide) (F4.out HHI.out)) ?_)
                   rintro e w' ⟨rfl, hk⟩
                   refine ⟨?_, hKc.trans hk, trivial⟩
                   with_reducible rfl)
                · (simp only [Act.put, List.setIfInBounds_toArray, List.set_cons_zero, List.set_cons_succ]; with_reducible rfl)
                clear hKc
                intro wn hKc _
                repeat (first
                  | (refine seq_take (v := ?_) (a' := ?_) (by rfl) ?_ ?_ ?_
                     rotate_left 2
                     · (intro w hSw; have hcs := HBOX.out w hSw; clear hSw; go_split_ands; go_simp; with_reducible rfl)
                     · (simp only [Act.put, List.setIfInBounds_toArray, List.set_cons_zero, List.set_cons_succ]; with_reducible rfl))
                  | (refine seq_skip (a' := ?_) hKc (by rfl) ?_ ?_
                     rotate_left
                     · (simp only [Act.put, List.setIfInBounds_toArray, List.set_cons_zero, List.set_cons_succ]; with_reducible rfl)))
                refine seq_nil ?_
                go_wp2_with fail
                go_meet
                exact ⟨rfl, hKc⟩
              · have HHI := Lib.hid hhi
                have hhb : decide ((0 : Int) < k10) = false := decide_eq_false hhi
                clear hhi
                refine seq_region (S := fun w' => Keep Y w') [⟨0, 64, 4503599627370496⟩, ⟨1, 4503599627370496, 9007199254740992⟩, ⟨2, 9007199254740992, 18014398509481984⟩, ⟨0, 64, 36028797018963968⟩, ⟨8, 36028797018963968, 72057594037927936⟩, ⟨16, 72057594037927936, 144115188075855872⟩, ⟨36, 162129586585337856, 288230376151711744⟩, ⟨64, 288230376151711744, 576460752303423488⟩, ⟨128, 576460752303423489, 1152921504606846976⟩, ⟨128, 576460752303423616, 2305843009213693952⟩, ⟨896, 4035225266123964416, 4611686018427387904⟩, ⟨1152, 5188146770730811392, 9223372036854775808⟩, ⟨2176, 9799832789158199296, 18446744073709551616⟩, ⟨5120, 18446744073709551616, 36893488147419103232⟩, ⟨8192, 36893488147419103233, 73786976294838206464⟩, ⟨8192, 36893488147419103488, 147573952589676412928⟩, ⟨57344, 258254417031933722624, 295147905179352825856⟩, ⟨73728, 332041393326771929088, 590295810358705651712⟩, ⟨139264, 627189298506124754944, 1180591620717411303424⟩, ⟨327680, 1180591620717411303424, 2361183241434822606848⟩, ⟨524288, 2361183241434822606976, 4722366482869645213696⟩, ⟨1572864, 7083549724304467820544, 9444732965739290427392⟩, ⟨2621440, 11805916207174113034240, 18889465931478580854784⟩, ⟨4718592, 21250649172913403461632, 37778931862957161709568⟩, ⟨8388608, 37778931862957161709569, 75557863725914323419136⟩, ⟨8388608, 37778931862957161710080, 151115727451828646838272⟩, ⟨58720256, 264452523040700131966976, 302231454903657293676544⟩, ⟨76021760, 342371570008049277992960, 604462909807314587353088⟩, ⟨134742016, 606824093048749409959936, 1208925819614629174706176⟩, ⟨335544320, 1208925819614629174706176, 2417851639229258349412352⟩, ⟨536870912, 2417851639229258349413376, 4835703278458516698824704⟩, ⟨1610612736, 7253554917687775048237056, 9671406556917033397649408⟩, ⟨2684354560, 12089258196146291747061760, 19342813113834066795298816⟩, ⟨4831838208, 21760664753063325144711168, 38685626227668133590597632⟩, ⟨8589934592, 38685626227668133590597633, 77371252455336267181195264⟩, ⟨8589934592, 38685626227668133590598656, 154742504910672534362390528⟩, ⟨60129542144, 270799383593676935134183424, 309485009821345068724781056⟩, ⟨77846282240, 350588487688242460664791040, 618970019642690137449562112⟩, ⟨137975824384, 621387871281919395798974464, 1237940039285380274899124224⟩, ⟨343597383680, 1237940039285380274899124224, 2475880078570760549798248448⟩, ⟨549755813888, 2475880078570760549798248480, 4951760157141521099596496896⟩, ⟨1649267441664, 7427640235712281649394745344, 9903520314283042199192993792⟩, ⟨2748779069440, 12379400392853802748991242240, 19807040628566084398385987584⟩, ⟨4398046511104, 19807040628566084398385987592, 39614081257132168796771975168⟩, ⟨4398046511104, 19807040628566084398385987616, 79228162514264337593543950336⟩, ⟨21990232555520, 99035203142830421991929937920, 158456325028528675187087900672⟩, ⟨48378511622144, 217877446914226928382245863424, 316912650057057350374175801344⟩, ⟨74766790688768, 336719690685623434772561788928, 633825300114114700748351602688⟩, ⟨145135534866432, 653632340742680785146737590272, 1267650600228229401496703205376⟩, ⟨4398046511104, 19807040628566084398385987648, 2535301200456458802993406410752⟩, ⟨567347999932416, 2555108241085024887391792398336, 5070602400912917605986812821504⟩, ⟨1411772930064384, 6358060041769713091881902014464, 10141204801825835211973625643008⟩, ⟨2256747616010240, 10163487722532972056921809879040, 20282409603651670423947251286016⟩, ⟨4504149383184384, 20284885483730241184497049534464, 40564819207303340847894502572032⟩] [(0, false), (1, false), (2, false), (3, false), (4, false), (5, false), (6, false), (7, false), (8, false), (9, false), (10, true), (11, false), (12, false), (13, false), (14, false), (15, false), (16, true), (17, false), (18, false), (19, false), (20, false), (21, false), (22, false), (23, false), (24, false), (25, false), (26, true), (27, false), (28, false), (29, false), (30, false), (31, false), (32, false), (33, false), (34, false), (35, false), (36, true), (37, false), (38, false), (39, false), (40, false), (41, false), (42, false), (43, false), (44, false), (45, false), (46, false), (47, false), (48, false), (49, false), (50, false), (51, false), (52, false), (53, false)] rfl (by kernel_rfl) (by kernel_rfl) (fun _ _ d _ _ h => by cases d <;> exact h) hKc ?_
                simp only [rowsOf, rowAt, gslot, List.map_cons, List.map_nil, List.getElem?_toArray, List.getElem?_cons_zero, List.getElem?_cons_succ]
                repeat (first
                  | (refine seq_take (v := ?_) (a' := ?_) (by rfl) ?_ ?_ ?_
                     rotate_left 2
                     · (intro w hSw; have hcs := HBOX.out w hSw; clear hSw; go_split_ands; go_simp; with_reducible rfl)
                     · (simp only [Act.put, List.setIfInBounds_toArray, List.set_cons_zero, List.set_cons_succ]; with_reducible rfl))
                  | (refine seq_skip (a' := ?_) hKc (by rfl) ?_ ?_
                     rotate_left
                     · (simp only [Act.put, List.setIfInBounds_toArray, List.set_cons_zero, List.set_cons_succ]; with_reducible rfl)))
                refine seq_callR (R := fun _ => True) (f := 20) (args := ?_) (v := ?_) (a' := ?_) (by rfl) (by rfl) (by rfl) Tryd.call20 ?_ ?_ ?_ ?_
                rotate_left 3
                · (go_simp; with_reducible rfl)
                · ((with_reducible refine Calls.mono (has_v (i : Int) lo true (HaY.out.keep hKc) (by decide) F1.out) ?_)
                   rintro e w' ⟨rfl, hk⟩
                   refine ⟨?_, hKc.trans hk, trivial⟩
                   with_reducible rfl)
                · (simp only [Act.put, List.setIfInBounds_toArray, List.set_cons_zero, List.set_cons_succ]; with_reducible rfl)
                clear hKc
                intro wn hKc _
                repeat (first
                  | (refine seq_take (v := ?_) (a' := ?_) (by rfl) ?_ ?_ ?_
                     rotate_left 2
                     · (intro w hSw; have hcs := HBOX.out w hSw; clear hSw; go_split_ands; go_simp; with_reducible rfl)
                     · (simp only [Act.put, List.setIfInBounds_toArray, List.set_cons_zero, List.set_cons_succ]; with_reducible rfl))
                  | (refine seq_skip (a' := ?_) hKc (by rfl) ?_ ?_
                     rotate_left
                     · (simp only [Act.put, List.setIfInBounds_toArray, List.set_cons_zero, List.set_cons_succ]; with_reducible rfl)))
                refine seq_callR (R := fun _ => True) (f := 20) (args := ?_) (v := ?_) (a' := ?_) (by rfl) (by rfl) (by rfl) Tryd.call20 ?_ ?_ ?_ ?_
                rotate_left 3
                · (go_simp; with_reducible rfl)
                · ((with_reducible refine Calls.mono (has_v (i : Int) hi true (HaY.out.keep hKc) (by decide) F2.out) ?_)
                   rintro e w' ⟨rfl, hk⟩
                   refine ⟨?_, hKc.trans hk, trivial⟩
                   with_reducible rfl)
                · (simp only [Act.put, List.setIfInBounds_toArray, List.set_cons_zero, List.set_cons_succ]; with_reducible rfl)
                clear hKc
                intro wn hKc _
                repeat (first
                  | (refine seq_take (v := ?_) (a' := ?_) (by rfl) ?_ ?_ ?_
                     rotate_left 2
                     · (intro w hSw; have hcs := HBOX.out w hSw; clear hSw; go_split_ands; go_simp; with_reducible rfl)
                     · (simp only [Act.put, List.setIfInBounds_toArray, List.set_cons_zero, List.set_cons_succ]; with_reducible rfl))
                  | (refine seq_skip (a' := ?_) hKc (by rfl) ?_ ?_
                     rotate_left
                     · (simp only [Act.put, List.setIfInBounds_toArray, List.set_cons_zero, List.set_cons_succ]; with_reducible rfl)))
                refine seq_callR (R := fun _ => True) (f := 20) (args := ?_) (v := ?_) (a' := ?_) (by rfl) (by rfl) (by rfl) Tryd.call20 ?_ ?_ ?_ ?_
                rotate_left 3
                · (go_simp; with_reducible rfl)
                · ((with_reducible refine Calls.mono (has_v (i : Int) k9 false (HaY.out.keep hKc) (by decide) (F3.out HLO.out)) ?_)
                   rintro e w' ⟨rfl, hk⟩
                   refine ⟨?_, hKc.trans hk, trivial⟩
                   with_reducible rfl)
                · (simp only [Act.put, List.setIfInBounds_toArray, List.set_cons_zero, List.set_cons_succ]; with_reducible rfl)
                clear hKc
                intro wn hKc _
                repeat (first
                  | (refine seq_take (v := ?_) (a' := ?_) (by rfl) ?_ ?_ ?_
                     rotate_left 2
                     · (intro w hSw; have hcs := HBOX.out w hSw; clear hSw; go_split_ands; go_simp; with_reducible rfl)
                     · (simp only [Act.put, List.setIfInBounds_toArray, List.set_cons_zero, List.set_cons_succ]; with_reducible rfl))
                  | (refine seq_skip (a' := ?_) hKc (by rfl) ?_ ?_
                     rotate_left
                     · (simp only [Act.put, List.setIfInBounds_toArray, List.set_cons_zero, List.set_cons_succ]; with_reducible rfl)))
                refine seq_nil ?_
                go_wp2_with fail
                go_meet
                exact ⟨rfl, hKc⟩
            · have HLO := Lib.hid hlo
              have hlb : decide ((0 : Int) < lo) = false := decide_eq_false hlo
              clear hlo
              by_cases hhi : 0 < k10
              · have HHI := Lib.hid hhi
                have hhb : decide ((0 : Int) < k10) = true := decide_eq_true hhi
                clear hhi
                refine seq_region (S := fun w' => Keep Y w') [⟨0, 64, 4503599627370496⟩, ⟨1, 4503599627370496, 9007199254740992⟩, ⟨2, 9007199254740992, 18014398509481984⟩, ⟨0, 64, 36028797018963968⟩, ⟨8, 36028797018963968, 72057594037927936⟩, ⟨16, 72057594037927936, 144115188075855872⟩, ⟨36, 162129586585337856, 288230376151711744⟩, ⟨64, 288230376151711744, 576460752303423488⟩, ⟨128, 576460752303423489, 1152921504606846976⟩, ⟨128, 576460752303423616, 2305843009213693952⟩, ⟨896, 4035225266123964416, 4611686018427387904⟩, ⟨1152, 5188146770730811392, 9223372036854775808⟩, ⟨2176, 9799832789158199296, 18446744073709551616⟩, ⟨5120, 18446744073709551616, 36893488147419103232⟩, ⟨8192, 36893488147419103233, 73786976294838206464⟩, ⟨8192, 36893488147419103488, 147573952589676412928⟩, ⟨57344, 258254417031933722624, 295147905179352825856⟩, ⟨73728, 332041393326771929088, 590295810358705651712⟩, ⟨139264, 627189298506124754944, 1180591620717411303424⟩, ⟨327680, 1180591620717411303424, 2361183241434822606848⟩, ⟨524288, 2361183241434822606976, 4722366482869645213696⟩, ⟨1572864, 7083549724304467820544, 9444732965739290427392⟩, ⟨2621440, 11805916207174113034240, 18889465931478580854784⟩, ⟨4718592, 21250649172913403461632, 37778931862957161709568⟩, ⟨8388608, 37778931862957161709569, 75557863725914323419136⟩, ⟨8388608, 37778931862957161710080, 151115727451828646838272⟩, ⟨58720256, 264452523040700131966976, 302231454903657293676544⟩, ⟨76021760, 342371570008049277992960, 604462909807314587353088⟩, ⟨134742016, 606824093048749409959936, 1208925819614629174706176⟩, ⟨335544320, 1208925819614629174706176, 2417851639229258349412352⟩, ⟨536870912, 2417851639229258349413376, 4835703278458516698824704⟩, ⟨1610612736, 7253554917687775048237056, 9671406556917033397649408⟩, ⟨2684354560, 12089258196146291747061760, 19342813113834066795298816⟩, ⟨4831838208, 21760664753063325144711168, 38685626227668133590597632⟩, ⟨8589934592, 38685626227668133590597633, 77371252455336267181195264⟩, ⟨8589934592, 38685626227668133590598656, 154742504910672534362390528⟩, ⟨60129542144, 270799383593676935134183424, 309485009821345068724781056⟩, ⟨77846282240, 350588487688242460664791040, 618970019642690137449562112⟩, ⟨137975824384, 621387871281919395798974464, 1237940039285380274899124224⟩, ⟨343597383680, 1237940039285380274899124224, 2475880078570760549798248448⟩, ⟨549755813888, 2475880078570760549798248480, 4951760157141521099596496896⟩, ⟨1649267441664, 7427640235712281649394745344, 9903520314283042199192993792⟩, ⟨2748779069440, 12379400392853802748991242240, 19807040628566084398385987584⟩, ⟨4398046511104, 19807040628566084398385987592, 39614081257132168796771975168⟩, ⟨4398046511104, 19807040628566084398385987616, 79228162514264337593543950336⟩, ⟨21990232555520, 99035203142830421991929937920, 158456325028528675187087900672⟩, ⟨48378511622144, 217877446914226928382245863424, 316912650057057350374175801344⟩, ⟨74766790688768, 336719690685623434772561788928, 633825300114114700748351602688⟩, ⟨145135534866432, 653632340742680785146737590272, 1267650600228229401496703205376⟩, ⟨4398046511104, 19807040628566084398385987648, 2535301200456458802993406410752⟩, ⟨567347999932416, 2555108241085024887391792398336, 5070602400912917605986812821504⟩, ⟨1411772930064384, 6358060041769713091881902014464, 10141204801825835211973625643008⟩, ⟨2256747616010240, 10163487722532972056921809879040, 20282409603651670423947251286016⟩, ⟨4504149383184384, 20284885483730241184497049534464, 40564819207303340847894502572032⟩] [(0, false), (1, false), (2, false), (3, false), (4, false), (5, false), (6, false), (7, false), (8, false), (9, false), (10, true), (11, false), (12, false), (13, false), (14, false), (15, false), (16, true), (17, false), (18, false), (19, false), (20, false), (21, false), (22, false), (23, false), (24, false), (25, false), (26, true), (27, false), (28, false), (29, false), (30, false), (31, false), (32, false), (33, false), (34, false), (35, false), (36, true), (37, false), (38, false), (39, false), (40, false), (41, false), (42, false), (43, false), (44, false), (45, false), (46, false), (47, false), (48, false), (49, false), (50, false), (51, false), (52, false), (53, false)] rfl (by kernel_rfl) (by kernel_rfl) (fun _ _ d _ _ h => by cases d <;> exact h) hKc ?_
                simp only [rowsOf, rowAt, gslot, List.map_cons, List.map_nil, List.getElem?_toArray, List.getElem?_cons_zero, List.getElem?_cons_succ]
                repeat (first
                  | (refine seq_take (v := ?_) (a' := ?_) (by rfl) ?_ ?_ ?_
                     rotate_left 2
                     · (intro w hSw; have hcs := HBOX.out w hSw; clear hSw; go_split_ands; go_simp; with_reducible rfl)
                     · (simp only [Act.put, List.setIfInBounds_toArray, List.set_cons_zero, List.set_cons_succ]; with_reducible rfl))
                  | (refine seq_skip (a' := ?_) hKc (by rfl) ?_ ?_
                     rotate_left
                     · (simp only [Act.put, List.setIfInBounds_toArray, List.set_cons_zero, List.set_cons_succ]; with_reducible rfl)))
                refine seq_callR (R := fun _ => True) (f := 20) (args := ?_) (v := ?_) (a' := ?_) (by rfl) (by rfl) (by rfl) Tryd.call20 ?_ ?_ ?_ ?_
                rotate_left 3
                · (go_simp; with_reducible rfl)
                · ((with_reducible refine Calls.mono (has_v (i : Int) lo true (HaY.out.keep hKc) (by decide) F1.out) ?_)
                   rintro e w' ⟨rfl, hk⟩
                   refine ⟨?_, hKc.trans hk, trivial⟩
                   with_reducible rfl)
                · (simp only [Act.put, List.setIfInBounds_toArray, List.set_cons_zero, List.set_cons_succ]; with_reducible rfl)
                clear hKc
                intro wn hKc _
                repeat (first
                  | (refine seq_take (v := ?_) (a' := ?_) (by rfl) ?_ ?_ ?_
                     rotate_left 2
                     · (intro w hSw; have hcs := HBOX.out w hSw; clear hSw; go_split_ands; go_simp; with_reducible rfl)
                     · (simp only [Act.put, List.setIfInBounds_toArray, List.set_cons_zero, List.set_cons_succ]; with_reducible rfl))
                  | (refine seq_skip (a' := ?_) hKc (by rfl) ?_ ?_
                     rotate_left
                     · (simp only [Act.put, List.setIfInBounds_toArray, List.set_cons_zero, List.set_cons_succ]; with_reducible rfl)))
                refine seq_callR (R := fun _ => True) (f := 20) (args := ?_) (v := ?_) (a' := ?_) (by rfl) (by rfl) (by rfl) Tryd.call20 ?_ ?_ ?_ ?_
                rotate_left 3
                · (go_simp; with_reducible rfl)
                · ((with_reducible refine Calls.mono (has_v (i : Int) hi true (HaY.out.keep hKc) (by decide) F2.out) ?_)
                   rintro e w' ⟨rfl, hk⟩
                   refine ⟨?_, hKc.trans hk, trivial⟩
                   with_reducible rfl)
                · (simp only [Act.put, List.setIfInBounds_toArray, List.set_cons_zero, List.set_cons_succ]; with_reducible rfl)
                clear hKc
                intro wn hKc _
                repeat (first
                  | (refine seq_take (v := ?_) (a' := ?_) (by rfl) ?_ ?_ ?_
                     rotate_left 2
                     · (intro w hSw; have hcs := HBOX.out w hSw; clear hSw; go_split_ands; go_simp; with_reducible rfl)
                     · (simp only [Act.put, List.setIfInBounds_toArray, List.set_cons_zero, List.set_cons_succ]; with_reducible rfl))
                  | (refine seq_skip (a' := ?_) hKc (by rfl) ?_ ?_
                     rotate_left
                     · (simp only [Act.put, List.setIfInBounds_toArray, List.set_cons_zero, List.set_cons_succ]; with_reducible rfl)))
                refine seq_callR (R := fun _ => True) (f := 20) (args := ?_) (v := ?_) (a' := ?_) (by rfl) (by rfl) (by rfl) Tryd.call20 ?_ ?_ ?_ ?_
                rotate_left 3
                · (go_simp; with_reducible rfl)
                · ((with_reducible refine Calls.mono (has_v (i : Int) k10 false (HaY.out.keep hKc) (by decide) (F4.out HHI.out)) ?_)
                   rintro e w' ⟨rfl, hk⟩
                   refine ⟨?_, hKc.trans hk, trivial⟩
                   with_reducible rfl)
                · (simp only [Act.put, List.setIfInBounds_toArray, List.set_cons_zero, List.set_cons_succ]; with_reducible rfl)
                clear hKc
                intro wn hKc _
                repeat (first
                  | (refine seq_take (v := ?_) (a' := ?_) (by rfl) ?_ ?_ ?_
                     rotate_left 2
                     · (intro w hSw; have hcs := HBOX.out w hSw; clear hSw; go_split_ands; go_simp; with_reducible rfl)
                     · (simp only [Act.put, List.setIfInBounds_toArray, List.set_cons_zero, List.set_cons_succ]; with_reducible rfl))
                  | (refine seq_skip (a' := ?_) hKc (by rfl) ?_ ?_
                     rotate_left
                     · (simp only [Act.put, List.setIfInBounds_toArray, List.set_cons_zero, List.set_cons_succ]; with_reducible rfl)))
                refine seq_nil ?_
                go_wp2_with fail
                go_meet
                exact ⟨rfl, hKc⟩
              · have HHI := Lib.hid hhi
                have hhb : decide ((0 : Int) < k10) = false := decide_eq_false hhi
                clear hhi
                refine seq_region (S := fun w' => Keep Y w') [⟨0, 64, 4503599627370496⟩, ⟨1, 4503599627370496, 9007199254740992⟩, ⟨2, 9007199254740992, 18014398509481984⟩, ⟨0, 64, 36028797018963968⟩, ⟨8, 36028797018963968, 72057594037927936⟩, ⟨16, 72057594037927936, 144115188075855872⟩, ⟨36, 162129586585337856, 288230376151711744⟩, ⟨64, 288230376151711744, 576460752303423488⟩, ⟨128, 576460752303423489, 1152921504606846976⟩, ⟨128, 576460752303423616, 2305843009213693952⟩, ⟨896, 4035225266123964416, 4611686018427387904⟩, ⟨1152, 5188146770730811392, 9223372036854775808⟩, ⟨2176, 9799832789158199296, 18446744073709551616⟩, ⟨5120, 18446744073709551616, 36893488147419103232⟩, ⟨8192, 36893488147419103233, 73786976294838206464⟩, ⟨8192, 36893488147419103488, 147573952589676412928⟩, ⟨57344, 258254417031933722624, 295147905179352825856⟩, ⟨73728, 332041393326771929088, 590295810358705651712⟩, ⟨139264, 627189298506124754944, 1180591620717411303424⟩, ⟨327680, 1180591620717411303424, 2361183241434822606848⟩, ⟨524288, 2361183241434822606976, 4722366482869645213696⟩, ⟨1572864, 7083549724304467820544, 9444732965739290427392⟩, ⟨2621440, 11805916207174113034240, 18889465931478580854784⟩, ⟨4718592, 21250649172913403461632, 37778931862957161709568⟩, ⟨8388608, 37778931862957161709569, 75557863725914323419136⟩, ⟨8388608, 37778931862957161710080, 151115727451828646838272⟩, ⟨58720256, 264452523040700131966976, 302231454903657293676544⟩, ⟨76021760, 342371570008049277992960, 604462909807314587353088⟩, ⟨134742016, 606824093048749409959936, 1208925819614629174706176⟩, ⟨335544320, 1208925819614629174706176, 2417851639229258349412352⟩, ⟨536870912, 2417851639229258349413376, 4835703278458516698824704⟩, ⟨1610612736, 7253554917687775048237056, 9671406556917033397649408⟩, ⟨2684354560, 12089258196146291747061760, 19342813113834066795298816⟩, ⟨4831838208, 21760664753063325144711168, 38685626227668133590597632⟩, ⟨8589934592, 38685626227668133590597633, 77371252455336267181195264⟩, ⟨8589934592, 38685626227668133590598656, 154742504910672534362390528⟩, ⟨60129542144, 270799383593676935134183424, 309485009821345068724781056⟩, ⟨77846282240, 350588487688242460664791040, 618970019642690137449562112⟩, ⟨137975824384, 621387871281919395798974464, 1237940039285380274899124224⟩, ⟨343597383680, 1237940039285380274899124224, 2475880078570760549798248448⟩, ⟨549755813888, 2475880078570760549798248480, 4951760157141521099596496896⟩, ⟨1649267441664, 7427640235712281649394745344, 9903520314283042199192993792⟩, ⟨2748779069440, 12379400392853802748991242240, 19807040628566084398385987584⟩, ⟨4398046511104, 19807040628566084398385987592, 39614081257132168796771975168⟩, ⟨4398046511104, 19807040628566084398385987616, 79228162514264337593543950336⟩, ⟨21990232555520, 99035203142830421991929937920, 158456325028528675187087900672⟩, ⟨48378511622144, 217877446914226928382245863424, 316912650057057350374175801344⟩, ⟨74766790688768, 336719690685623434772561788928, 633825300114114700748351602688⟩, ⟨145135534866432, 653632340742680785146737590272, 1267650600228229401496703205376⟩, ⟨4398046511104, 19807040628566084398385987648, 2535301200456458802993406410752⟩, ⟨567347999932416, 2555108241085024887391792398336, 5070602400912917605986812821504⟩, ⟨1411772930064384, 6358060041769713091881902014464, 10141204801825835211973625643008⟩, ⟨2256747616010240, 10163487722532972056921809879040, 20282409603651670423947251286016⟩, ⟨4504149383184384, 20284885483730241184497049534464, 40564819207303340847894502572032⟩] [(0, false), (1, false), (2, false), (3, false), (4, false), (5, false), (6, false), (7, false), (8, false), (9, false), (10, true), (11, false), (12, false), (13, false), (14, false), (15, false), (16, true), (17, false), (18, false), (19, false), (20, false), (21, false), (22, false), (23, false), (24, false), (25, false), (26, true), (27, false), (28, false), (29, false), (30, false), (31, false), (32, false), (33, false), (34, false), (35, false), (36, true), (37, false), (38, false), (39, false), (40, false), (41, false), (42, false), (43, false), (44, false), (45, false), (46, false), (47, false), (48, false), (49, false), (50, false), (51, false), (52, false), (53, false)] rfl (by kernel_rfl) (by kernel_rfl) (fun _ _ d _ _ h => by cases d <;> exact h) hKc ?_
                simp only [rowsOf, rowAt, gslot, List.map_cons, List.map_nil, List.getElem?_toArray, List.getElem?_cons_zero, List.getElem?_cons_succ]
                repeat (first
                  | (refine seq_take (v := ?_) (a' := ?_) (by rfl) ?_ ?_ ?_
                     rotate_left 2
                     · (intro w hSw; have hcs := HBOX.out w hSw; clear hSw; go_split_ands; go_simp; with_reducible rfl)
                     · (simp only [Act.put, List.setIfInBounds_toArray, List.set_cons_zero, List.set_cons_succ]; with_reducible rfl))
                  | (refine seq_skip (a' := ?_) hKc (by rfl) ?_ ?_
                     rotate_left
                     · (simp only [Act.put, List.setIfInBounds_toArray, List.set_cons_zero, List.set_cons_succ]; with_reducible rfl)))
                refine seq_callR (R := fun _ => True) (f := 20) (args := ?_) (v := ?_) (a' := ?_) (by rfl) (by rfl) (by rfl) Tryd.call20 ?_ ?_ ?_ ?_
                rotate_left 3
                · (go_simp; with_reducible rfl)
                · ((with_reducible refine Calls.mono (has_v (i : Int) lo true (HaY.out.keep hKc) (by decide) F1.out) ?_)
                   rintro e w' ⟨rfl, hk⟩
                   refine ⟨?_, hKc.trans hk, trivial⟩
                   with_reducible rfl)
                · (simp only [Act.put, List.setIfInBounds_toArray, List.set_cons_zero, List.set_cons_succ]; with_reducible rfl)
                clear hKc
                intro wn hKc _
                repeat (first
                  | (refine seq_take (v := ?_) (a' := ?_) (by rfl) ?_ ?_ ?_
                     rotate_left 2
                     · (intro w hSw; have hcs := HBOX.out w hSw; clear hSw; go_split_ands; go_simp; with_reducible rfl)
                     · (simp only [Act.put, List.setIfInBounds_toArray, List.set_cons_zero, List.set_cons_succ]; with_reducible rfl))
                  | (refine seq_skip (a' := ?_) hKc (by rfl) ?_ ?_
                     rotate_left
                     · (simp only [Act.put, List.setIfInBounds_toArray, List.set_cons_zero, List.set_cons_succ]; with_reducible rfl)))
                refine seq_callR (R := fun _ => True) (f := 20) (args := ?_) (v := ?_) (a' := ?_) (by rfl) (by rfl) (by rfl) Tryd.call20 ?_ ?_ ?_ ?_
                rotate_left 3
                · (go_simp; with_reducible rfl)
                · ((with_reducible refine Calls.mono (has_v (i : Int) hi true (HaY.out.keep hKc) (by decide) F2.out) ?_)
                   rintro e w' ⟨rfl, hk⟩
                   refine ⟨?_, hKc.trans hk, trivial⟩
                   with_reducible rfl)
                · (simp only [Act.put, List.setIfInBounds_toArray, List.set_cons_zero, List.set_cons_succ]; with_reducible rfl)
                clear hKc
                intro wn hKc _
                repeat (first
                  | (refine seq_take (v := ?_) (a' := ?_) (by rfl) ?_ ?_ ?_
                     rotate_left 2
                     · (intro w hSw; have hcs := HBOX.out w hSw; clear hSw; go_split_ands; go_simp; with_reducible rfl)
                     · (simp only [Act.put, List.setIfInBounds_toArray, List.set_cons_zero, List.set_cons_succ]; with_reducible rfl))
                  | (refine seq_skip (a' := ?_) hKc (by rfl) ?_ ?_
                     rotate_left
                     · (simp only [Act.put, List.setIfInBounds_toArray, List.set_cons_zero, List.set_cons_succ]; with_reducible rfl)))
                refine seq_nil ?_
                go_wp2_with fail
                go_meet
                exact ⟨rfl, hKc⟩
          · obtain ⟨J, hjJ⟩ : ∃ J, j = J + 1 := ⟨j - 1, by omega⟩
            obtain ⟨y, hy⟩ : ∃ y, L[J]? = some y := ⟨_, List.getElem?_eq_getElem (by rw [← HN.out]; omega)⟩
            have hyx : decide ((i : Int) < y.1) = false := decide_eq_false (by have h1 := HX.out; rw [HLD.out, hjJ] at h1; have h2 := hy; rw [HLD.out] at h2; have := rise_at h1 h2; dsimp only at this; omega)
            obtain ⟨g', e, hg', d0, -, -⟩ := row3_cells HROW.out hy
            cases e
            have HBOX := Lib.hid (show ∀ X, Keep Y X → _ ∧ X.cell? ⟨g, J * 3, none⟩ = some (.int .i64 y.1) from fun X hX => ⟨HBX.out X hX, ((HKY.out.trans hX).cell (p := ⟨g, J * 3, none⟩) hg').trans d0⟩)
            have hj0 : decide ((0 : Int) < (j : Int)) = true := decide_eq_true (by omega)
            have hj0n : decide (0 < j) = true := decide_eq_true (by omega)
            have hwj : IntKind.i64.wrap ((j : Int) - 1) = (J : Int) := by rw [IntKind.wrap_i64]; omega
            have hJn : (J : Int) < (n : Int) := by omega
            clear hy d0 hjJ hjz
            by_cases hlo : 0 < lo
            · have HLO := Lib.hid hlo
              have hlb : decide ((0 : Int) < lo) = true := decide_eq_true hlo
              clear hlo
              by_cases hhi : 0 < k10
              · have HHI := Lib.hid hhi
                have hhb : decide ((0 : Int) < k10) = true := decide_eq_true hhi
                clear hhi
                refine seq_region (S := fun w' => Keep Y w') [⟨0, 64, 4503599627370496⟩, ⟨1, 4503599627370496, 9007199254740992⟩, ⟨2, 9007199254740992, 18014398509481984⟩, ⟨0, 64, 36028797018963968⟩, ⟨8, 36028797018963968, 72057594037927936⟩, ⟨16, 72057594037927936, 144115188075855872⟩, ⟨36, 162129586585337856, 288230376151711744⟩, ⟨64, 288230376151711744, 576460752303423488⟩, ⟨128, 576460752303423489, 1152921504606846976⟩, ⟨128, 576460752303423616, 2305843009213693952⟩, ⟨896, 4035225266123964416, 4611686018427387904⟩, ⟨1152, 5188146770730811392, 9223372036854775808⟩, ⟨2176, 9799832789158199296, 18446744073709551616⟩, ⟨5120, 18446744073709551616, 36893488147419103232⟩, ⟨8192, 36893488147419103233, 73786976294838206464⟩, ⟨8192, 36893488147419103488, 147573952589676412928⟩, ⟨57344, 258254417031933722624, 295147905179352825856⟩, ⟨73728, 332041393326771929088, 590295810358705651712⟩, ⟨139264, 627189298506124754944, 1180591620717411303424⟩, ⟨327680, 1180591620717411303424, 2361183241434822606848⟩, ⟨524288, 2361183241434822606976, 4722366482869645213696⟩, ⟨1572864, 7083549724304467820544, 9444732965739290427392⟩, ⟨2621440, 11805916207174113034240, 18889465931478580854784⟩, ⟨4718592, 21250649172913403461632, 37778931862957161709568⟩, ⟨8388608, 37778931862957161709569, 75557863725914323419136⟩, ⟨8388608, 37778931862957161710080, 151115727451828646838272⟩, ⟨58720256, 264452523040700131966976, 302231454903657293676544⟩, ⟨76021760, 342371570008049277992960, 604462909807314587353088⟩, ⟨134742016, 606824093048749409959936, 1208925819614629174706176⟩, ⟨335544320, 1208925819614629174706176, 2417851639229258349412352⟩, ⟨536870912, 2417851639229258349413376, 4835703278458516698824704⟩, ⟨1610612736, 7253554917687775048237056, 9671406556917033397649408⟩, ⟨2684354560, 12089258196146291747061760, 19342813113834066795298816⟩, ⟨4831838208, 21760664753063325144711168, 38685626227668133590597632⟩, ⟨8589934592, 38685626227668133590597633, 77371252455336267181195264⟩, ⟨8589934592, 38685626227668133590598656, 154742504910672534362390528⟩, ⟨60129542144, 270799383593676935134183424, 309485009821345068724781056⟩, ⟨77846282240, 350588487688242460664791040, 618970019642690137449562112⟩, ⟨137975824384, 621387871281919395798974464, 1237940039285380274899124224⟩, ⟨343597383680, 1237940039285380274899124224, 2475880078570760549798248448⟩, ⟨549755813888, 2475880078570760549798248480, 4951760157141521099596496896⟩, ⟨1649267441664, 7427640235712281649394745344, 9903520314283042199192993792⟩, ⟨2748779069440, 12379400392853802748991242240, 19807040628566084398385987584⟩, ⟨4398046511104, 19807040628566084398385987592, 39614081257132168796771975168⟩, ⟨4398046511104, 19807040628566084398385987616, 79228162514264337593543950336⟩, ⟨21990232555520, 99035203142830421991929937920, 158456325028528675187087900672⟩, ⟨48378511622144, 217877446914226928382245863424, 316912650057057350374175801344⟩, ⟨74766790688768, 336719690685623434772561788928, 633825300114114700748351602688⟩, ⟨145135534866432, 653632340742680785146737590272, 1267650600228229401496703205376⟩, ⟨4398046511104, 19807040628566084398385987648, 2535301200456458802993406410752⟩, ⟨567347999932416, 2555108241085024887391792398336, 5070602400912917605986812821504⟩, ⟨1411772930064384, 6358060041769713091881902014464, 10141204801825835211973625643008⟩, ⟨2256747616010240, 10163487722532972056921809879040, 20282409603651670423947251286016⟩, ⟨4504149383184384, 20284885483730241184497049534464, 40564819207303340847894502572032⟩] [(0, false), (1, false), (2, false), (3, false), (4, false), (5, false), (6, false), (7, false), (8, false), (9, false), (10, true), (11, false), (12, false), (13, false), (14, false), (15, false), (16, true), (17, false), (18, false), (19, false), (20, false), (21, false), (22, false), (23, false), (24, false), (25, false), (26, true), (27, false), (28, false), (29, false), (30, false), (31, false), (32, false), (33, false), (34, false), (35, false), (36, true), (37, false), (38, false), (39, false), (40, false), (41, false), (42, false), (43, false), (44, false), (45, false), (46, false), (47, false), (48, false), (49, false), (50, false), (51, false), (52, false), (53, false)] rfl (by kernel_rfl) (by kernel_rfl) (fun _ _ d _ _ h => by cases d <;> exact h) hKc ?_
                simp only [rowsOf, rowAt, gslot, List.map_cons, List.map_nil, List.getElem?_toArray, List.getElem?_cons_zero, List.getElem?_cons_succ]
                repeat (first
                  | (refine seq_take (v := ?_) (a' := ?_) (by rfl) ?_ ?_ ?_
                     rotate_left 2
                     · (intro w hSw; have hcs := HBOX.out w hSw; clear hSw; go_split_ands; go_simp; with_reducible rfl)
                     · (simp only [Act.put, List.setIfInBounds_toArray, List.set_cons_zero, List.set_cons_succ]; with_reducible rfl))
                  | (refine seq_skip (a' := ?_) hKc (by rfl) ?_ ?_
                     rotate_left
                     · (simp only [Act.put, List.setIfInBounds_toArray, List.set_cons_zero, List.set_cons_succ]; with_reducible rfl)))
                refine seq_callR (R := fun _ => True) (f := 20) (args := ?_) (v := ?_) (a' := ?_) (by rfl) (by rfl) (by rfl) Tryd.call20 ?_ ?_ ?_ ?_
                rotate_left 3
                · (go_simp; with_reducible rfl)
                · ((with_reducible refine Calls.mono (has_v (i : Int) lo true (HaY.out.keep hKc) (by decide) F1.out) ?_)
                   rintro e w' ⟨rfl, hk⟩
                   refine ⟨?_, hKc.trans hk, trivial⟩
                   with_reducible rfl)
                · (simp only [Act.put, List.setIfInBounds_toArray, List.set_cons_zero, List.set_cons_succ]; with_reducible rfl)
                clear hKc
                intro wn hKc _
                repeat (first
                  | (refine seq_take (v := ?_) (a' := ?_) (by rfl) ?_ ?_ ?_
                     rotate_left 2
                     · (intro w hSw; have hcs := HBOX.out w hSw; clear hSw; go_split_ands; go_simp; with_reducible rfl)
                     · (simp only [Act.put, List.setIfInBounds_toArray, List.set_cons_zero, List.set_cons_succ]; with_reducible rfl))
                  | (refine seq_skip (a' := ?_) hKc (by rfl) ?_ ?_
                     rotate_left
                     · (simp only [Act.put, List.setIfInBounds_toArray, List.set_cons_zero, List.set_cons_succ]; with_reducible rfl)))
                refine seq_callR (R := fun _ => True) (f := 20) (args := ?_) (v := ?_) (a' := ?_) (by rfl) (by rfl) (by rfl) Tryd.call20 ?_ ?_ ?_ ?_
                rotate_left 3
                · (go_simp; with_reducible rfl)
                · ((with_reducible refine Calls.mono (has_v (i : Int) hi true (HaY.out.keep hKc) (by decide) F2.out) ?_)
                   rintro e w' ⟨rfl, hk⟩
                   refine ⟨?_, hKc.trans hk, trivial⟩
                   with_reducible rfl)
                · (simp only [Act.put, List.setIfInBounds_toArray, List.set_cons_zero, List.set_cons_succ]; with_reducible rfl)
                clear hKc
                intro wn hKc _
                repeat (first
                  | (refine seq_take (v := ?_) (a' := ?_) (by rfl) ?_ ?_ ?_
                     rotate_left 2
                     · (intro w hSw; have hcs := HBOX.out w hSw; clear hSw; go_split_ands; go_simp; with_reducible rfl)
                     · (simp only [Act.put, List.setIfInBounds_toArray, List.set_cons_zero, List.set_cons_succ]; with_reducible rfl))
                  | (refine seq_skip (a' := ?_) hKc (by rfl) ?_ ?_
                     rotate_left
                     · (simp only [Act.put, List.setIfInBounds_toArray, List.set_cons_zero, List.set_cons_succ]; with_reducible rfl)))
                refine seq_callR (R := fun _ => True) (f := 20) (args := ?_) (v := ?_) (a' := ?_) (by rfl) (by rfl) (by rfl) Tryd.call20 ?_ ?_ ?_ ?_
                rotate_left 3
                · (go_simp; with_reducible rfl)
                · ((with_reducible refine Calls.mono (has_v (i : Int) k9 false (HaY.out.keep hKc) (by decide) (F3.out HLO.out)) ?_)
                   rintro e w' ⟨rfl, hk⟩
                   refine ⟨?_, hKc.trans hk, trivial⟩
                   with_reducible rfl)
                · (simp only [Act.put, List.setIfInBounds_toArray, List.set_cons_zero, List.set_cons_succ]; with_reducible rfl)
                clear hKc
                intro wn hKc _
                repeat (first
                  | (refine seq_take (v := ?_) (a' := ?_) (by rfl) ?_ ?_ ?_
                     rotate_left 2
                     · (intro w hSw; have hcs := HBOX.out w hSw; clear hSw; go_split_ands; go_simp; with_reducible rfl)
                     · (simp only [Act.put, List.setIfInBounds_toArray, List.set_cons_zero, List.set_cons_succ]; with_reducible rfl))
                  | (refine seq_skip (a' := ?_) hKc (by rfl) ?_ ?_
                     rotate_left
                     · (simp only [Act.put, List.setIfInBounds_toArray, List.set_cons_zero, List.set_cons_succ]; with_reducible rfl)))
                refine seq_callR (R := fun _ => True) (f := 20) (args := ?_) (v := ?_) (a' := ?_) (by rfl) (by rfl) (by rfl) Tryd.call20 ?_ ?_ ?_ ?_
                rotate_left 3
                · (go_simp; with_reducible rfl)
                · ((with_reducible refine Calls.mono (has_v (i : Int) k10 false (HaY.out.keep hKc) (by decide) (F4.out HHI.out)) ?_)
                   rintro e w' ⟨rfl, hk⟩
                   refine ⟨?_, hKc.trans hk, trivial⟩
                   with_reducible rfl)
                · (simp only [Act.put, List.setIfInBounds_toArray, List.set_cons_zero, List.set_cons_succ]; with_reducible rfl)
                clear hKc
                intro wn hKc _
                repeat (first
                  | (refine seq_take (v := ?_) (a' := ?_) (by rfl) ?_ ?_ ?_
                     rotate_left 2
                     · (intro w hSw; have hcs := HBOX.out w hSw; clear hSw; go_split_ands; go_simp; with_reducible rfl)
                     · (simp only [Act.put, List.setIfInBounds_toArray, List.set_cons_zero, List.set_cons_succ]; with_reducible rfl))
                  | (refine seq_skip (a' := ?_) hKc (by rfl) ?_ ?_
                     rotate_left
                     · (simp only [Act.put, List.setIfInBounds_toArray, List.set_cons_zero, List.set_cons_succ]; with_reducible rfl)))
                refine seq_nil ?_
                go_wp2_with fail
                go_meet
                exact ⟨rfl, hKc⟩
              · have HHI := Lib.hid hhi
                have hhb : decide ((0 : Int) < k10) = false := decide_eq_false hhi
                clear hhi
                refine seq_region (S := fun w' => Keep Y w') [⟨0, 64, 4503599627370496⟩, ⟨1, 4503599627370496, 9007199254740992⟩, ⟨2, 9007199254740992, 18014398509481984⟩, ⟨0, 64, 36028797018963968⟩, ⟨8, 36028797018963968, 72057594037927936⟩, ⟨16, 72057594037927936, 144115188075855872⟩, ⟨36, 162129586585337856, 288230376151711744⟩, ⟨64, 288230376151711744, 576460752303423488⟩, ⟨128, 576460752303423489, 1152921504606846976⟩, ⟨128, 576460752303423616, 2305843009213693952⟩, ⟨896, 4035225266123964416, 4611686018427387904⟩, ⟨1152, 5188146770730811392, 9223372036854775808⟩, ⟨2176, 9799832789158199296, 18446744073709551616⟩, ⟨5120, 18446744073709551616, 36893488147419103232⟩, ⟨8192, 36893488147419103233, 73786976294838206464⟩, ⟨8192, 36893488147419103488, 147573952589676412928⟩, ⟨57344, 258254417031933722624, 295147905179352825856⟩, ⟨73728, 332041393326771929088, 590295810358705651712⟩, ⟨139264, 627189298506124754944, 1180591620717411303424⟩, ⟨327680, 1180591620717411303424, 2361183241434822606848⟩, ⟨524288, 2361183241434822606976, 4722366482869645213696⟩, ⟨1572864, 7083549724304467820544, 9444732965739290427392⟩, ⟨2621440, 11805916207174113034240, 18889465931478580854784⟩, ⟨4718592, 21250649172913403461632, 37778931862957161709568⟩, ⟨8388608, 37778931862957161709569, 75557863725914323419136⟩, ⟨8388608, 37778931862957161710080, 151115727451828646838272⟩, ⟨58720256, 264452523040700131966976, 302231454903657293676544⟩, ⟨76021760, 342371570008049277992960, 604462909807314587353088⟩, ⟨134742016, 606824093048749409959936, 1208925819614629174706176⟩, ⟨335544320, 1208925819614629174706176, 2417851639229258349412352⟩, ⟨536870912, 2417851639229258349413376, 4835703278458516698824704⟩, ⟨1610612736, 7253554917687775048237056, 9671406556917033397649408⟩, ⟨2684354560, 12089258196146291747061760, 19342813113834066795298816⟩, ⟨4831838208, 21760664753063325144711168, 38685626227668133590597632⟩, ⟨8589934592, 38685626227668133590597633, 77371252455336267181195264⟩, ⟨8589934592, 38685626227668133590598656, 154742504910672534362390528⟩, ⟨60129542144, 270799383593676935134183424, 309485009821345068724781056⟩, ⟨77846282240, 350588487688242460664791040, 618970019642690137449562112⟩, ⟨137975824384, 621387871281919395798974464, 1237940039285380274899124224⟩, ⟨343597383680, 1237940039285380274899124224, 2475880078570760549798248448⟩, ⟨549755813888, 2475880078570760549798248480, 4951760157141521099596496896⟩, ⟨1649267441664, 7427640235712281649394745344, 9903520314283042199192993792⟩, ⟨2748779069440, 12379400392853802748991242240, 19807040628566084398385987584⟩, ⟨4398046511104, 19807040628566084398385987592, 39614081257132168796771975168⟩, ⟨4398046511104, 19807040628566084398385987616, 79228162514264337593543950336⟩, ⟨21990232555520, 99035203142830421991929937920, 158456325028528675187087900672⟩, ⟨48378511622144, 217877446914226928382245863424, 316912650057057350374175801344⟩, ⟨74766790688768, 336719690685623434772561788928, 633825300114114700748351602688⟩, ⟨145135534866432, 653632340742680785146737590272, 1267650600228229401496703205376⟩, ⟨4398046511104, 19807040628566084398385987648, 2535301200456458802993406410752⟩, ⟨567347999932416, 2555108241085024887391792398336, 5070602400912917605986812821504⟩, ⟨1411772930064384, 6358060041769713091881902014464, 10141204801825835211973625643008⟩, ⟨2256747616010240, 10163487722532972056921809879040, 20282409603651670423947251286016⟩, ⟨4504149383184384, 20284885483730241184497049534464, 40564819207303340847894502572032⟩] [(0, false), (1, false), (2, false), (3, false), (4, false), (5, false), (6, false), (7, false), (8, false), (9, false), (10, true), (11, false), (12, false), (13, false), (14, false), (15, false), (16, true), (17, false), (18, false), (19, false), (20, false), (21, false), (22, false), (23, false), (24, false), (25, false), (26, true), (27, false), (28, false), (29, false), (30, false), (31, false), (32, false), (33, false), (34, false), (35, false), (36, true), (37, false), (38, false), (39, false), (40, false), (41, false), (42, false), (43, false), (44, false), (45, false), (46, false), (47, false), (48, false), (49, false), (50, false), (51, false), (52, false), (53, false)] rfl (by kernel_rfl) (by kernel_rfl) (fun _ _ d _ _ h => by cases d <;> exact h) hKc ?_
                simp only [rowsOf, rowAt, gslot, List.map_cons, List.map_nil, List.getElem?_toArray, List.getElem?_cons_zero, List.getElem?_cons_succ]
                repeat (first
                  | (refine seq_take (v := ?_) (a' := ?_) (by rfl) ?_ ?_ ?_
                     rotate_left 2
                     · (intro w hSw; have hcs := HBOX.out w hSw; clear hSw; go_split_ands; go_simp; with_reducible rfl)
                     · (simp only [Act.put, List.setIfInBounds_toArray, List.set_cons_zero, List.set_cons_succ]; with_reducible rfl))
                  | (refine seq_skip (a' := ?_) hKc (by rfl) ?_ ?_
                     rotate_left
                     · (simp only [Act.put, List.setIfInBounds_toArray, List.set_cons_zero, List.set_cons_succ]; with_reducible rfl)))
                refine seq_callR (R := fun _ => True) (f := 20) (args := ?_) (v := ?_) (a' := ?_) (by rfl) (by rfl) (by rfl) Tryd.call20 ?_ ?_ ?_ ?_
                rotate_left 3
                · (go_simp; with_reducible rfl)
                · ((with_reducible refine Calls.mono (has_v (i : Int) lo true (HaY.out.keep hKc) (by decide) F1.out) ?_)
                   rintro e w' ⟨rfl, hk⟩
                   refine ⟨?_, hKc.trans hk, trivial⟩
                   with_reducible rfl)
                · (simp only [Act.put, List.setIfInBounds_toArray, List.set_cons_zero, List.set_cons_succ]; with_reducible rfl)
                clear hKc
                intro wn hKc _
                repeat (first
                  | (refine seq_take (v := ?_) (a' := ?_) (by rfl) ?_ ?_ ?_
                     rotate_left 2
                     · (intro w hSw; have hcs := HBOX.out w hSw; clear hSw; go_split_ands; go_simp; with_reducible rfl)
                     · (simp only [Act.put, List.setIfInBounds_toArray, List.set_cons_zero, List.set_cons_succ]; with_reducible rfl))
                  | (refine seq_skip (a' := ?_) hKc (by rfl) ?_ ?_
                     rotate_left
                     · (simp only [Act.put, List.setIfInBounds_toArray, List.set_cons_zero, List.set_cons_succ]; with_reducible rfl)))
                refine seq_callR (R := fun _ => True) (f := 20) (args := ?_) (v := ?_) (a' := ?_) (by rfl) (by rfl) (by rfl) Tryd.call20 ?_ ?_ ?_ ?_
                rotate_left 3
                · (go_simp; with_reducible rfl)
                · ((with_reducible refine Calls.mono (has_v (i : Int) hi true (HaY.out.keep hKc) (by decide) F2.out) ?_)
                   rintro e w' ⟨rfl, hk⟩
                   refine ⟨?_, hKc.trans hk, trivial⟩
                   with_reducible rfl)
                · (simp only [Act.put, List.setIfInBounds_toArray, List.set_cons_zero, List.set_cons_succ]; with_reducible rfl)
                clear hKc
                intro wn hKc _
                repeat (first
                  | (refine seq_take (v := ?_) (a' := ?_) (by rfl) ?_ ?_ ?_
                     rotate_left 2
                     · (intro w hSw; have hcs := HBOX.out w hSw; clear hSw; go_split_ands; go_simp; with_reducible rfl)
                     · (simp only [Act.put, List.setIfInBounds_toArray, List.set_cons_zero, List.set_cons_succ]; with_reducible rfl))
                  | (refine seq_skip (a' := ?_) hKc (by rfl) ?_ ?_
                     rotate_left
                     · (simp only [Act.put, List.setIfInBounds_toArray, List.set_cons_zero, List.set_cons_succ]; with_reducible rfl)))
                refine seq_callR (R := fun _ => True) (f := 20) (args := ?_) (v := ?_) (a' := ?_) (by rfl) (by rfl) (by rfl) Tryd.call20 ?_ ?_ ?_ ?_
                rotate_left 3
                · (go_simp; with_reducible rfl)
                · ((with_reducible refine Calls.mono (has_v (i : Int) k9 false (HaY.out.keep hKc) (by decide) (F3.out HLO.out)) ?_)
                   rintro e w' ⟨rfl, hk⟩
                   refine ⟨?_, hKc.trans hk, trivial⟩
                   with_reducible rfl)
                · (simp only [Act.put, List.setIfInBounds_toArray, List.set_cons_zero, List.set_cons_succ]; with_reducible rfl)
                clear hKc
                intro wn hKc _
                repeat (first
                  | (refine seq_take (v := ?_) (a' := ?_) (by rfl) ?_ ?_ ?_
                     rotate_left 2
                     · (intro w hSw; have hcs := HBOX.out w hSw; clear hSw; go_split_ands; go_simp; with_reducible rfl)
                     · (simp only [Act.put, List.setIfInBounds_toArray, List.set_cons_zero, List.set_cons_succ]; with_reducible rfl))
                  | (refine seq_skip (a' := ?_) hKc (by rfl) ?_ ?_
                     rotate_left
                     · (simp only [Act.put, List.setIfInBounds_toArray, List.set_cons_zero, List.set_cons_succ]; with_reducible rfl)))
                refine seq_nil ?_
                go_wp2_with fail
                go_meet
                exact ⟨rfl, hKc⟩
            · have HLO := Lib.hid hlo
              have hlb : decide ((0 : Int) < lo) = false := decide_eq_false hlo
              clear hlo
              by_cases hhi : 0 < k10
              · have HHI := Lib.hid hhi
                have hhb : decide ((0 : Int) < k10) = true := decide_eq_true hhi
                clear hhi
                refine seq_region (S := fun w' => Keep Y w') [⟨0, 64, 4503599627370496⟩, ⟨1, 4503599627370496, 9007199254740992⟩, ⟨2, 9007199254740992, 18014398509481984⟩, ⟨0, 64, 36028797018963968⟩, ⟨8, 36028797018963968, 72057594037927936⟩, ⟨16, 72057594037927936, 144115188075855872⟩, ⟨36, 162129586585337856, 288230376151711744⟩, ⟨64, 288230376151711744, 576460752303423488⟩, ⟨128, 576460752303423489, 1152921504606846976⟩, ⟨128, 576460752303423616, 2305843009213693952⟩, ⟨896, 4035225266123964416, 4611686018427387904⟩, ⟨1152, 5188146770730811392, 9223372036854775808⟩, ⟨2176, 9799832789158199296, 18446744073709551616⟩, ⟨5120, 18446744073709551616, 36893488147419103232⟩, ⟨8192, 36893488147419103233, 73786976294838206464⟩, ⟨8192, 36893488147419103488, 147573952589676412928⟩, ⟨57344, 258254417031933722624, 295147905179352825856⟩, ⟨73728, 332041393326771929088, 590295810358705651712⟩, ⟨139264, 627189298506124754944, 1180591620717411303424⟩, ⟨327680, 1180591620717411303424, 2361183241434822606848⟩, ⟨524288, 2361183241434822606976, 4722366482869645213696⟩, ⟨1572864, 7083549724304467820544, 9444732965739290427392⟩, ⟨2621440, 11805916207174113034240, 18889465931478580854784⟩, ⟨4718592, 21250649172913403461632, 37778931862957161709568⟩, ⟨8388608, 37778931862957161709569, 75557863725914323419136⟩, ⟨8388608, 37778931862957161710080, 151115727451828646838272⟩, ⟨58720256, 264452523040700131966976, 302231454903657293676544⟩, ⟨76021760, 342371570008049277992960, 604462909807314587353088⟩, ⟨134742016, 606824093048749409959936, 1208925819614629174706176⟩, ⟨335544320, 1208925819614629174706176, 2417851639229258349412352⟩, ⟨536870912, 2417851639229258349413376, 4835703278458516698824704⟩, ⟨1610612736, 7253554917687775048237056, 9671406556917033397649408⟩, ⟨2684354560, 12089258196146291747061760, 19342813113834066795298816⟩, ⟨4831838208, 21760664753063325144711168, 38685626227668133590597632⟩, ⟨8589934592, 38685626227668133590597633, 77371252455336267181195264⟩, ⟨8589934592, 38685626227668133590598656, 154742504910672534362390528⟩, ⟨60129542144, 270799383593676935134183424, 309485009821345068724781056⟩, ⟨77846282240, 350588487688242460664791040, 618970019642690137449562112⟩, ⟨137975824384, 621387871281919395798974464, 1237940039285380274899124224⟩, ⟨343597383680, 1237940039285380274899124224, 2475880078570760549798248448⟩, ⟨549755813888, 2475880078570760549798248480, 4951760157141521099596496896⟩, ⟨1649267441664, 7427640235712281649394745344, 9903520314283042199192993792⟩, ⟨2748779069440, 12379400392853802748991242240, 19807040628566084398385987584⟩, ⟨4398046511104, 19807040628566084398385987592, 39614081257132168796771975168⟩, ⟨4398046511104, 19807040628566084398385987616, 79228162514264337593543950336⟩, ⟨21990232555520, 99035203142830421991929937920, 158456325028528675187087900672⟩, ⟨48378511622144, 217877446914226928382245863424, 316912650057057350374175801344⟩, ⟨74766790688768, 336719690685623434772561788928, 633825300114114700748351602688⟩, ⟨145135534866432, 653632340742680785146737590272, 1267650600228229401496703205376⟩, ⟨4398046511104, 19807040628566084398385987648, 2535301200456458802993406410752⟩, ⟨567347999932416, 2555108241085024887391792398336, 5070602400912917605986812821504⟩, ⟨1411772930064384, 6358060041769713091881902014464, 10141204801825835211973625643008⟩, ⟨2256747616010240, 10163487722532972056921809879040, 20282409603651670423947251286016⟩, ⟨4504149383184384, 20284885483730241184497049534464, 40564819207303340847894502572032⟩] [(0, false), (1, false), (2, false), (3, false), (4, false), (5, false), (6, false), (7, false), (8, false), (9, false), (10, true), (11, false), (12, false), (13, false), (14, false), (15, false), (16, true), (17, false), (18, false), (19, false), (20, false), (21, false), (22, false), (23, false), (24, false), (25, false), (26, true), (27, false), (28, false), (29, false), (30, false), (31, false), (32, false), (33, false), (34, false), (35, false), (36, true), (37, false), (38, false), (39, false), (40, false), (41, false), (42, false), (43, false), (44, false), (45, false), (46, false), (47, false), (48, false), (49, false), (50, false), (51, false), (52, false), (53, false)] rfl (by kernel_rfl) (by kernel_rfl) (fun _ _ d _ _ h => by cases d <;> exact h) hKc ?_
                simp only [rowsOf, rowAt, gslot, List.map_cons, List.map_nil, List.getElem?_toArray, List.getElem?_cons_zero, List.getElem?_cons_succ]
                repeat (first
                  | (refine seq_take (v := ?_) (a' := ?_) (by rfl) ?_ ?_ ?_
                     rotate_left 2
                     · (intro w hSw; have hcs := HBOX.out w hSw; clear hSw; go_split_ands; go_simp; with_reducible rfl)
                     · (simp only [Act.put, List.setIfInBounds_toArray, List.set_cons_zero, List.set_cons_succ]; with_reducible rfl))
                  | (refine seq_skip (a' := ?_) hKc (by rfl) ?_ ?_
                     rotate_left
                     · (simp only [Act.put, List.setIfInBounds_toArray, List.set_cons_zero, List.set_cons_succ]; with_reducible rfl)))
                refine seq_callR (R := fun _ => True) (f := 20) (args := ?_) (v := ?_) (a' := ?_) (by rfl) (by rfl) (by rfl) Tryd.call20 ?_ ?_ ?_ ?_
                rotate_left 3
                · (go_simp; with_reducible rfl)
                · ((with_reducible refine Calls.mono (has_v (i : Int) lo true (HaY.out.keep hKc) (by decide) F1.out) ?_)
                   rintro e w' ⟨rfl, hk⟩
                   refine ⟨?_, hKc.trans hk, trivial⟩
                   with_reducible rfl)
                · (simp only [Act.put, List.setIfInBounds_toArray, List.set_cons_zero, List.set_cons_succ]; with_reducible rfl)
                clear hKc
                intro wn hKc _
                repeat (first
                  | (refine seq_take (v := ?_) (a' := ?_) (by rfl) ?_ ?_ ?_
                     rotate_left 2
                     · (intro w hSw; have hcs := HBOX.out w hSw; clear hSw; go_split_ands; go_simp; with_reducible rfl)
                     · (simp only [Act.put, List.setIfInBounds_toArray, List.set_cons_zero, List.set_cons_succ]; with_reducible rfl))
                  | (refine seq_skip (a' := ?_) hKc (by rfl) ?_ ?_
                     rotate_left
                     · (simp only [Act.put, List.setIfInBounds_toArray, List.set_cons_zero, List.set_cons_succ]; with_reducible rfl)))
                refine seq_callR (R := fun _ => True) (f := 20) (args := ?_) (v := ?_) (a' := ?_) (by rfl) (by rfl) (by rfl) Tryd.call20 ?_ ?_ ?_ ?_
                rotate_left 3
                · (go_simp; with_reducible rfl)
                · ((with_reducible refine Calls.mono (has_v (i : Int) hi true (HaY.out.keep hKc) (by decide) F2.out) ?_)
                   rintro e w' ⟨rfl, hk⟩
                   refine ⟨?_, hKc.trans hk, trivial⟩
                   with_reducible rfl)
                · (simp only [Act.put, List.setIfInBounds_toArray, List.set_cons_zero, List.set_cons_succ]; with_reducible rfl)
                clear hKc
                intro wn hKc _
                repeat (first
                  | (refine seq_take (v := ?_) (a' := ?_) (by rfl) ?_ ?_ ?_
                     rotate_left 2
                     · (intro w hSw; have hcs := HBOX.out w hSw; clear hSw; go_split_ands; go_simp; with_reducible rfl)
                     · (simp only [Act.put, List.setIfInBounds_toArray, List.set_cons_zero, List.set_cons_succ]; with_reducible rfl))
                  | (refine seq_skip (a' := ?_) hKc (by rfl) ?_ ?_
                     rotate_left
                     · (simp only [Act.put, List.setIfInBounds_toArray, List.set_cons_zero, List.set_cons_succ]; with_reducible rfl)))
                refine seq_callR (R := fun _ => True) (f := 20) (args := ?_) (v := ?_) (a' := ?_) (by rfl) (by rfl) (by rfl) Tryd.call20 ?_ ?_ ?_ ?_
                rotate_left 3
                · (go_simp; with_reducible rfl)
                · ((with_reducible refine Calls.mono (has_v (i : Int) k10 false (HaY.out.keep hKc) (by decide) (F4.out HHI.out)) ?_)
                   rintro e w' ⟨rfl, hk⟩
                   refine ⟨?_, hKc.trans hk, trivial⟩
                   with_reducible rfl)
                · (simp only [Act.put, List.setIfInBounds_toArray, List.set_cons_zero, List.set_cons_succ]; with_reducible rfl)
                clear hKc
                intro wn hKc _
                repeat (first
                  | (refine seq_take (v := ?_) (a' := ?_) (by rfl) ?_ ?_ ?_
                     rotate_left 2
                     · (intro w hSw; have hcs := HBOX.out w hSw; clear hSw; go_split_ands; go_simp; with_reducible rfl)
                     · (simp only [Act.put, List.setIfInBounds_toArray, List.set_cons_zero, List.set_cons_succ]; with_reducible rfl))
                  | (refine seq_skip (a' := ?_) hKc (by rfl) ?_ ?_
                     rotate_left
                     · (simp only [Act.put, List.setIfInBounds_toArray, List.set_cons_zero, List.set_cons_succ]; with_reducible rfl)))
                refine seq_nil ?_
                go_wp2_with fail
                go_meet
                exact ⟨rfl, hKc⟩
              · have HHI := Lib.hid hhi
                have hhb : decide ((0 : Int) < k10) = false := decide_eq_false hhi
                clear hhi
                refine seq_region (S := fun w' => Keep Y w') [⟨0, 64, 4503599627370496⟩, ⟨1, 4503599627370496, 9007199254740992⟩, ⟨2, 9007199254740992, 18014398509481984⟩, ⟨0, 64, 36028797018963968⟩, ⟨8, 36028797018963968, 72057594037927936⟩, ⟨16, 72057594037927936, 144115188075855872⟩, ⟨36, 162129586585337856, 288230376151711744⟩, ⟨64, 288230376151711744, 576460752303423488⟩, ⟨128, 576460752303423489, 1152921504606846976⟩, ⟨128, 576460752303423616, 2305843009213693952⟩, ⟨896, 4035225266123964416, 4611686018427387904⟩, ⟨1152, 5188146770730811392, 9223372036854775808⟩, ⟨2176, 9799832789158199296, 18446744073709551616⟩, ⟨5120, 18446744073709551616, 36893488147419103232⟩, ⟨8192, 36893488147419103233, 73786976294838206464⟩, ⟨8192, 36893488147419103488, 147573952589676412928⟩, ⟨57344, 258254417031933722624, 295147905179352825856⟩, ⟨73728, 332041393326771929088, 590295810358705651712⟩, ⟨139264, 627189298506124754944, 1180591620717411303424⟩, ⟨327680, 1180591620717411303424, 2361183241434822606848⟩, ⟨524288, 2361183241434822606976, 4722366482869645213696⟩, ⟨1572864, 7083549724304467820544, 9444732965739290427392⟩, ⟨2621440, 11805916207174113034240, 18889465931478580854784⟩, ⟨4718592, 21250649172913403461632, 37778931862957161709568⟩, ⟨8388608, 37778931862957161709569, 75557863725914323419136⟩, ⟨8388608, 37778931862957161710080, 151115727451828646838272⟩, ⟨58720256, 264452523040700131966976, 302231454903657293676544⟩, ⟨76021760, 342371570008049277992960, 604462909807314587353088⟩, ⟨134742016, 606824093048749409959936, 1208925819614629174706176⟩, ⟨335544320, 1208925819614629174706176, 2417851639229258349412352⟩, ⟨536870912, 2417851639229258349413376, 4835703278458516698824704⟩, ⟨1610612736, 7253554917687775048237056, 9671406556917033397649408⟩, ⟨2684354560, 12089258196146291747061760, 19342813113834066795298816⟩, ⟨4831838208, 21760664753063325144711168, 38685626227668133590597632⟩, ⟨8589934592, 38685626227668133590597633, 77371252455336267181195264⟩, ⟨8589934592, 38685626227668133590598656, 154742504910672534362390528⟩, ⟨60129542144, 270799383593676935134183424, 309485009821345068724781056⟩, ⟨77846282240, 350588487688242460664791040, 618970019642690137449562112⟩, ⟨137975824384, 621387871281919395798974464, 1237940039285380274899124224⟩, ⟨343597383680, 1237940039285380274899124224, 2475880078570760549798248448⟩, ⟨549755813888, 2475880078570760549798248480, 4951760157141521099596496896⟩, ⟨1649267441664, 7427640235712281649394745344, 9903520314283042199192993792⟩, ⟨2748779069440, 12379400392853802748991242240, 19807040628566084398385987584⟩, ⟨4398046511104, 19807040628566084398385987592, 39614081257132168796771975168⟩, ⟨4398046511104, 19807040628566084398385987616, 79228162514264337593543950336⟩, ⟨21990232555520, 99035203142830421991929937920, 158456325028528675187087900672⟩, ⟨48378511622144, 217877446914226928382245863424, 316912650057057350374175801344⟩, ⟨74766790688768, 336719690685623434772561788928, 633825300114114700748351602688⟩, ⟨145135534866432, 653632340742680785146737590272, 1267650600228229401496703205376⟩, ⟨4398046511104, 19807040628566084398385987648, 2535301200456458802993406410752⟩, ⟨567347999932416, 2555108241085024887391792398336, 5070602400912917605986812821504⟩, ⟨1411772930064384, 6358060041769713091881902014464, 10141204801825835211973625643008⟩, ⟨2256747616010240, 10163487722532972056921809879040, 20282409603651670423947251286016⟩, ⟨4504149383184384, 20284885483730241184497049534464, 40564819207303340847894502572032⟩] [(0, false), (1, false), (2, false), (3, false), (4, false), (5, false), (6, false), (7, false), (8, false), (9, false), (10, true), (11, false), (12, false), (13, false), (14, false), (15, false), (16, true), (17, false), (18, false), (19, false), (20, false), (21, false), (22, false), (23, false), (24, false), (25, false), (26, true), (27, false), (28, false), (29, false), (30, false), (31, false), (32, false), (33, false), (34, false), (35, false), (36, true), (37, false), (38, false), (39, false), (40, false), (41, false), (42, false), (43, false), (44, false), (45, false), (46, false), (47, false), (48, false), (49, false), (50, false), (51, false), (52, false), (53, false)] rfl (by kernel_rfl) (by kernel_rfl) (fun _ _ d _ _ h => by cases d <;> exact h) hKc ?_
                simp only [rowsOf, rowAt, gslot, List.map_cons, List.map_nil, List.getElem?_toArray, List.getElem?_cons_zero, List.getElem?_cons_succ]
                repeat (first
                  | (refine seq_take (v := ?_) (a' := ?_) (by rfl) ?_ ?_ ?_
                     rotate_left 2
                     · (intro w hSw; have hcs := HBOX.out w hSw; clear hSw; go_split_ands; go_simp; with_reducible rfl)
                     · (simp only [Act.put, List.setIfInBounds_toArray, List.set_cons_zero, List.set_cons_succ]; with_reducible rfl))
                  | (refine seq_skip (a' := ?_) hKc (by rfl) ?_ ?_
                     rotate_left
                     · (simp only [Act.put, List.setIfInBounds_toArray, List.set_cons_zero, List.set_cons_succ]; with_reducible rfl)))
                refine seq_callR (R := fun _ => True) (f := 20) (args := ?_) (v := ?_) (a' := ?_) (by rfl) (by rfl) (by rfl) Tryd.call20 ?_ ?_ ?_ ?_
                rotate_left 3
                · (go_simp; with_reducible rfl)
                · ((with_reducible refine Calls.mono (has_v (i : Int) lo true (HaY.out.keep hKc) (by decide) F1.out) ?_)
                   rintro e w' ⟨rfl, hk⟩
                   refine ⟨?_, hKc.trans hk, trivial⟩
                   with_reducible rfl)
                · (simp only [Act.put, List.setIfInBounds_toArray, List.set_cons_zero, List.set_cons_succ]; with_reducible rfl)
                clear hKc
                intro wn hKc _
                repeat (first
                  | (refine seq_take (v := ?_) (a' := ?_) (by rfl) ?_ ?_ ?_
                     rotate_left 2
                     · (intro w hSw; have hcs := HBOX.out w hSw; clear hSw; go_split_ands; go_simp; with_reducible rfl)
                     · (simp only [Act.put, List.setIfInBounds_toArray, List.set_cons_zero, List.set_cons_succ]; with_reducible rfl))
                  | (refine seq_skip (a' := ?_) hKc (by rfl) ?_ ?_
                     rotate_left
                     · (simp only [Act.put, List.setIfInBounds_toArray, List.set_cons_zero, List.set_cons_succ]; with_reducible rfl)))
                refine seq_callR (R := fun _ => True) (f := 20) (args := ?_) (v := ?_) (a' := ?_) (by rfl) (by rfl) (by rfl) Tryd.call20 ?_ ?_ ?_ ?_
                rotate_left 3
                · (go_simp; with_reducible rfl)
                · ((with_reducible refine Calls.mono (has_v (i : Int) hi true (HaY.out.keep hKc) (by decide) F2.out) ?_)
                   rintro e w' ⟨rfl, hk⟩
                   refine ⟨?_, hKc.trans hk, trivial⟩
                   with_reducible rfl)
                · (simp only [Act.put, List.setIfInBounds_toArray, List.set_cons_zero, List.set_cons_succ]; with_reducible rfl)
                clear hKc
                intro wn hKc _
                repeat (first
                  | (refine seq_take (v := ?_) (a' := ?_) (by rfl) ?_ ?_ ?_
                     rotate_left 2
                     · (intro w hSw; have hcs := HBOX.out w hSw; clear hSw; go_split_ands; go_simp; with_reducible rfl)
                     · (simp only [Act.put, List.setIfInBounds_toArray, List.set_cons_zero, List.set_cons_succ]; with_reducible rfl))
                  | (refine seq_skip (a' := ?_) hKc (by rfl) ?_ ?_
                     rotate_left
                     · (simp only [Act.put, List.setIfInBounds_toArray, List.set_cons_zero, List.set_cons_succ]; with_reducible rfl)))
                refine seq_nil ?_
                go_wp2_with fail
                go_meet
                exact ⟨rfl, hKc⟩
        case rest =>
          obtain ⟨rfl, hkz⟩ := hcut
          rename World => Z
          have HKZ := Lib.hid (HKY.out.trans hkz)
          have HBZ := Lib.hid (fun X (hX : Keep Z X) => (HBX.out X (hkz.trans hX)).1)
          obtain ⟨Aw, nw, cw, rfl, hw16, haw⟩ := HW.out
          have HAW := Lib.hid (haw.keep ((HK3.out.trans (HKX.out)).trans hkz))
          have HTZ := Lib.hid (HT.out.below HT.out.pos HKZ.out)
          clear haw hkz HBX HW HaY
          obtain ⟨P2, hP2⟩ : ∃ P2 : Nat, P2 = 2 ^ i := ⟨_, rfl⟩
          have hp : 0 < P2 ∧ P2 ≤ 65536 := by
            rw [hP2]
            exact ⟨Nat.two_pow_pos i, Nat.le_trans (Nat.pow_le_pow_right (by decide) (show i ≤ 16 by omega)) (by decide)⟩
          have hsh : IntKind.u32.wrap ((2 : Int) ^ i) = (P2 : Int) := by
            rw [show ((2 : Int) ^ i) = ((2 ^ i : Nat) : Int) by simp, ← hP2, IntKind.wrap_u32]
            omega
          have HP2 := Lib.hid (And.intro hP2 hp)
          have HI16 := Lib.hid hi16
          have HLH := Lib.hid HSP.out.2.1
          have hi0 : (0 : Int) ≤ (i : Int) := by omega
          clear hP2 hp
          go_upto_region 17 with fail
          have HBOX := HBZ
          have hKc := (Keep.refl Z).drew
          refine seq_region (S := fun w' => Keep Z w') [⟨0, 16, 81129638414606681695789005144064⟩, ⟨0, 64, 162259276829213363391578010288128⟩, ⟨2, 162259276829213363391578010288128, 324518553658426726783156020576256⟩, ⟨4, 324518553658426726783156020576256, 649037107316853453566312041152512⟩, ⟨0, 64, 1298074214633706907132624082305024⟩, ⟨16, 1298074214633706907132624082305024, 2596148429267413814265248164610048⟩, ⟨32, 2596148429267413814265248164610048, 5192296858534827628530496329220096⟩, ⟨72, 5841333965851681082096808370372608, 10384593717069655257060992658440192⟩, ⟨129, 10465723355484261938756781663584256, 20769187434139310514121985316880384⟩, ⟨511, 20769187434139310514121985316880384, 16⟩] [(0, false), (1, false), (2, false), (3, false), (4, false), (5, false), (6, true), (7, true), (8, true), (9, false)] rfl (by kernel_rfl) (by kernel_rfl) (fun _ _ d _ _ h => by cases d <;> exact h) hKc ?_
          simp only [rowsOf, rowAt, gslot, List.map_cons, List.map_nil, List.getElem?_toArray, List.getElem?_cons_zero, List.getElem?_cons_succ]
          repeat (first
            | (refine seq_take (v := ?_) (a' := ?_) (by rfl) ?_ ?_ ?_
               rotate_left 2
               · (intro w hSw; have hcs := HBOX.out w hSw; clear hSw; go_split_ands; go_simp; with_reducible rfl)
               · (simp only [Act.put, List.setIfInBounds_toArray, List.set_cons_zero, List.set_cons_succ]; with_reducible rfl))
            | (refine seq_skip (a' := ?_) hKc (by rfl) ?_ ?_
               rotate_left
               · (simp only [Act.put, List.setIfInBounds_toArray, List.set_cons_zero, List.set_cons_succ]; with_reducible rfl)))
          refine sq_make (v := .slice (some ⟨Z.drew.heap.size, 0, none⟩) 1 1) (w' := Z.drew.alloc (.cells #[.int .u32 lo, .int .u32 hi] 37)) (a' := ?_) (by rfl) (by go_simp) (hKc.alloc _) ?_ ?_
          rotate_left
          · (simp only [Act.put, List.setIfInBounds_toArray, List.set_cons_zero, List.set_cons_succ]; with_reducible rfl)
          have hka := hKc.alloc (.cells #[.int .u32 lo, .int .u32 hi] 37)
          have HAR := Lib.hid (arg_made Z.drew #[.int .u32 lo, .int .u32 hi] [⟨lo, hi⟩] 1 rfl rfl (fun s hs => by simp at hs; subst hs; exact HLH.out))
          clear hKc
          have hKc := hka
          repeat (first
            | (refine seq_take (v := ?_) (a' := ?_) (by rfl) ?_ ?_ ?_
               rotate_left 2
               · (intro w hSw; have hcs := HBOX.out w hSw; clear hSw; go_split_ands; go_simp; with_reducible rfl)
               · (simp only [Act.put, List.setIfInBounds_toArray, List.set_cons_zero, List.set_cons_succ]; with_reducible rfl))
            | (refine seq_skip (a' := ?_) hKc (by rfl) ?_ ?_
               rotate_left
               · (simp only [Act.put, List.setIfInBounds_toArray, List.set_cons_zero, List.set_cons_succ]; with_reducible rfl)))
          refine sq_callx (R := fun v w' => ∃ A5 c5, v = .slice A5 16 c5 ∧ AreaS (Z.drew.alloc (.cells #[.int .u32 lo, .int .u32 hi] 37)).heap.size w' A5 16 1 (fun q k => decide (q < 16) && (2 ^ i).testBit q && hasB [⟨lo, hi⟩] k)) (f := 15) (args := ?_) (by rfl) (by rfl) (by rfl) Tryd.call15 ?_ ?_ ?_
          rotate_left 1
          · (go_simp; with_reducible rfl)
          · refine (of_a (N := 1) (h := hasB [⟨lo, hi⟩]) 16 P2 16 (Bg.of HAR.out) (by decide) (by decide) (by have := HP2.out.2; omega) (by decide) (HTZ.out.below HTZ.out.pos hKc)).mono ?_
            rintro e w' ⟨A5, rfl, hk, ha⟩
            rw [HP2.out.1] at ha
            exact ⟨_, rfl, hKc.trans hk, A5, 16, rfl, ha⟩
          rintro v w5 hK5 ⟨A5, c5, rfl, ha5⟩
          simp only [Act.put, List.setIfInBounds_toArray, List.set_cons_zero, List.set_cons_succ]
          have hA5 := ha5.area
          clear hKc hka ha5
          have hKc := hK5
          repeat (first
            | (refine seq_take (v := ?_) (a' := ?_) (by rfl) ?_ ?_ ?_
               rotate_left 2
               · (intro w hSw; have hcs := HBOX.out w hSw; clear hSw; go_split_ands; go_simp; with_reducible rfl)
               · (simp only [Act.put, List.setIfInBounds_toArray, List.set_cons_zero, List.set_cons_succ]; with_reducible rfl))
            | (refine seq_skip (a' := ?_) hKc (by rfl) ?_ ?_
               rotate_left
               · (simp only [Act.put, List.setIfInBounds_toArray, List.set_cons_zero, List.set_cons_succ]; with_reducible rfl)))
          refine sq_callx (R := fun v w' => ∃ A6 c6, v = .slice A6 16 c6 ∧ Area w' A6 16 (j + 1) (whF (L.take (j + 1)))) (f := 12) (args := ?_) (by rfl) (by rfl) (by rfl) Tryd.call12 ?_ ?_ ?_
          rotate_left 1
          · (go_simp; with_reducible rfl)
          · refine (union_n 16 (by omega) (HAW.out.keep hKc) hA5 (by omega) (by decide) (by decide)).mono ?_
            rintro e w' ⟨A6, c6, rfl, hk, ha6, -⟩
            exact ⟨_, rfl, hKc.trans hk, A6, c6, rfl, ha6.area.congr (fun q k => whF_next HX.out HI16.out q k)⟩
          rintro v w6 hK6 ⟨A6, c6, rfl, ha6⟩
          simp only [Act.put, List.setIfInBounds_toArray, List.set_cons_zero, List.set_cons_succ]
          clear hKc hA5
          have hKc := hK6
          repeat (first
            | (refine seq_take (v := ?_) (a' := ?_) (by rfl) ?_ ?_ ?_
               rotate_left 2
               · (intro w hSw; have hcs := HBOX.out w hSw; clear hSw; go_split_ands; go_simp; with_reducible rfl)
               · (simp only [Act.put, List.setIfInBounds_toArray, List.set_cons_zero, List.set_cons_succ]; with_reducible rfl))
            | (refine seq_skip (a' := ?_) hKc (by rfl) ?_ ?_
               rotate_left
               · (simp only [Act.put, List.setIfInBounds_toArray, List.set_cons_zero, List.set_cons_succ]; with_reducible rfl)))
          refine seq_nil ?_
          have HW6 := Lib.hid (show WhI L (j + 1) (.slice A6 16 c6) w6 from ⟨A6, 16, c6, rfl, by decide, ha6⟩)
          have HK6 := Lib.hid (HKZ.out.trans hK6)
          clear hKc hK5 hK6 ha6 hsh HBOX HBZ
          go_wp2_with fail
          go_roundw
          case rel => exact ⟨j + 1, by go_num, hlt, HW6, HK6⟩
          case measure => simp [intOf]; omega
    · obtain rfl : j = n := by omega
      clear hlt
      obtain ⟨Aw, nw, cw, rfl, hw16, haw⟩ := HW.out
      have HAE := Lib.hid (Ha.out.keep HK.out)
      have HTE := Lib.hid (show ∀ i k, whF (L.take j) i k = arF za i k from fun i k => by
        rw [List.take_of_length_le (by rw [← HN.out]; exact Nat.le_refl _), HLD.out]
        exact whF_all HR.out Ha.out.out i k)
      obtain ⟨v, hv⟩ : ∃ v, ((j : Int) == 0) = v := ⟨_, rfl⟩
      have HVE := Lib.hid (show v = true ↔ ∀ i k, arF za i k = false by
        rw [← hv, ← cells_nil HR.out Ha.out.out, ← HLD.out, ← List.length_eq_zero_iff, ← HN.out, beq_iff_eq]
        omega)
      have HAW := Lib.hid haw
      clear haw HW
      have hKc := HKC.out.trans HK.out
      go_wp2_with fail
      go_at_call 24
      refine (same_a true HAW.out HAE.out (by omega) (by decide) (by omega) ⟨fun _ => HTE.out, fun _ => rfl⟩).mono ?_
      rintro e w7 ⟨rfl, hk⟩
      replace HAE := Lib.hid (HAE.out.keep hk)
      replace hKc := hKc.trans hk
      clear hk
      go_wp2_with fail
      go_at_call 26
      refine (empty_a v HAE.out (by decide) (by omega) HVE.out).mono ?_
      rintro e w8 ⟨rfl, hk⟩
      replace hKc := hKc.trans hk
      clear hk
      go_wp2
      go_ret
      exact ⟨rfl, hKc⟩

set_option maxRecDepth 100000 in
set_option maxHeartbeats 4000000 in
theorem cells_long {w : World} {A : Option Addr} {na ca : Nat} {za : List (List Sp)} (ra : AArg w A na ca za) (he : ¬ (fewB za = true ∧ na ≤ 16)) (hT : Tab w) :
    Calls Tryd.prog 7 #[.slice A na ca] w fun e w' => e = .returned (.bool true) ∧ Keep w w' := by
  have Ha := Lib.hid ra
  have HT := Lib.hid hT
  clear ra hT
  cases ha : fewB za
  · clear he
    go_enter Tryd.func7, Tryd.ntmps7
    go_wp2_with fail
    go_at_call 8
    refine (alive_any _ HT.out).mono ?_
    rintro e w1 ⟨rfl, hk⟩
    replace Ha := Lib.hid (Ha.out.keep hk)
    go_wp2_with fail
    go_at_call 9
    refine (few_a Ha.out).mono ?_
    rintro e wf ⟨rfl, rfl⟩
    rw [ha]
    go_wp2
    go_ret
    exact ⟨rfl, hk⟩
  · have h16 : (16 : Int) < (na : Int) := by
      have : ¬ na ≤ 16 := fun h => he ⟨ha, h⟩
      omega
    clear he
    go_enter Tryd.func7, Tryd.ntmps7
    go_wp2_with fail
    go_at_call 8
    refine (alive_any _ HT.out).mono ?_
    rintro e w1 ⟨rfl, hk⟩
    replace Ha := Lib.hid (Ha.out.keep hk)
    go_wp2_with fail
    go_at_call 9
    refine (few_a Ha.out).mono ?_
    rintro e wf ⟨rfl, rfl⟩
    rw [ha]
    go_wp2
    go_ret
    exact ⟨rfl, hk⟩
theorem AreaCells_std (A : Option Addr) (na ca : Nat) (za : List (List Sp)) (w : World) (ra : AArg w A na ca za) (hT : Tab w) :
    Calls Tryd.prog 7 #[.slice A na ca] w fun e w' => e = .returned (.bool true) ∧ Below w.heap.size w w' := by
  by_cases h : fewB za = true ∧ na ≤ 16
  · exact cells_few ra h.1 h.2 hT
  · exact cells_long ra h hT
end Go.Proofs.YtmdhbbibghpijaaDoor
