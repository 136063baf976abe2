/- The document's own trees: Fold. -/
import Derived.Test.YtopengbflnoneaaSegRef2
namespace Go.Proofs.Ytopengbflnoneaa
open Go.RowKit

theorem infoI64 : (Try.prog.info? 2).map (fun i => (i.zero, i.size, i.bytes)) = some (some (.int .i64 0), 1, 8) := by kernel_rfl
theorem one_news (w : World) (v : Int) : ∀ j u, ([.int .i64 v] : List Value)[j]? = some u → (w.alloc (.cells #[.int .i64 v] 2)).cell? ((⟨w.heap.size, 0, none⟩ : Addr).add j) = some u := by
  intro j u hu
  have h := World.alloc_heap_new w (.cells #[.int .i64 v] 2)
  rw [addr_add, Nat.zero_add]
  generalize w.alloc (.cells #[.int .i64 v] 2) = V at h ⊢
  rcases j with _ | j
  · simpa [World.cell?, h] using hu
  · simp at hu
/-- The values so far, in a row made since W1. -/
def KpI (W1 : World) (zz : List Int) (A' : Option Addr) (l c' : Nat) (X : World) : Prop := l = zz.length ∧ X.ownsRow W1.heap.size 2 1 (.slice A' l c') l (vals .i64 zz) ∧ Keep W1 X
theorem KpI.keep {W1 X Y : World} {zz : List Int} {A' : Option Addr} {l c' : Nat} (h : KpI W1 zz A' l c' X) (hk : Keep X Y) : KpI W1 zz A' l c' Y := ⟨h.1, ownsRow_only h.2.1 (Only.of_keep (fun _ => False) hk) (fun _ _ h => h), h.2.2.trans hk⟩
theorem KpI.start (W1 : World) : KpI W1 [] (some ⟨W1.heap.size, 0, none⟩) 0 0 (W1.alloc (.cells #[] 2)) :=
  ⟨rfl, World.ownsRow_made (base := W1.heap.size) (e := 2) (size := 1) W1 #[] 0 (Nat.le_refl _) (by simp) rfl, (Keep.refl W1).alloc _⟩
theorem KpI.more {W1 X : World} {zz : List Int} {A' : Option Addr} {l c' : Nat} (h : KpI W1 zz A' l c' X) (v : Int) {A6 : Option Addr} {c6 : Nat} {w6 : World} (ho : w6.ownsRow W1.heap.size 2 1 (.slice A6 (l + 1) c6) (l + 1) (vals .i64 zz ++ [.int .i64 v])) (hg : (X.alloc (.cells #[.int .i64 v] 2)).grownBy w6 (Value.slice A' l c').ownBlock) :
    KpI W1 (zz ++ [v]) A6 (l + 1) c6 w6 := by
  obtain ⟨h1, h2, h5⟩ := h
  have hO : Only (fun k => W1.heap.size ≤ k) X w6 := ((Only.refl _ X).alloc _).grown hg (fun k _ e => (h2.lt k e).1)
  refine ⟨by simp [h1], ?_, Only.keep h5 hO (fun k hk => hk)⟩
  rw [vals_append]
  exact ho
set_option maxRecDepth 100000 in
set_option maxHeartbeats 4000000 in
theorem rfold_is (A : Option Addr) (n c : Nat) (kvs : List (Int × Int)) (B : Option Addr) (m d : Nat) (lim lo hi' : Int) (w : World) (h : PL w A n kvs) (hn : n ≤ 1000) (hvr : ∀ p ∈ kvs, inI p.2) :
    Calls Try.prog 11 #[.agg #[.slice A n c, .slice B m d, .int .i64 lim], .agg #[.int .u32 lo, .int .u32 hi']] w fun e w' => e = .returned (.agg #[.int .i64 (ofL (vs (kvs.filter (inS lo hi')))).c, .int .i64 (ofL (vs (kvs.filter (inS lo hi')))).s, .int .i64 (ofL (vs (kvs.filter (inS lo hi')))).mn, .int .i64 (ofL (vs (kvs.filter (inS lo hi')))).mx]) ∧ Keep w w' := by
  obtain ⟨i0, hi, hz0, hz1, hz2⟩ := info_parts infoI64
  have hb0 := ((RB.new w A n c B m d lim).keep ((Keep.refl _).alloc (.cells #[.int .u32 lo, .int .u32 hi'] 36))).keep ((Keep.refl _).alloc (.cells #[.int .i64 0, .int .i64 0, .int .i64 0, .int .i64 0] 38))
  have hb1 := (SpB.new (w.alloc (.cells #[.slice A n c, .slice B m d, .int .i64 lim] 31)) lo hi').keep ((Keep.refl _).alloc (.cells #[.int .i64 0, .int .i64 0, .int .i64 0, .int .i64 0] 38))
  have hb2 : AgAt (((w.alloc (.cells #[.slice A n c, .slice B m d, .int .i64 lim] 31)).alloc (.cells #[.int .u32 lo, .int .u32 hi'] 36)).alloc (.cells #[.int .i64 0, .int .i64 0, .int .i64 0, .int .i64 0] 38)) ((w.alloc (.cells #[.slice A n c, .slice B m d, .int .i64 lim] 31)).alloc (.cells #[.int .u32 lo, .int .u32 hi'] 36)).heap.size nil0 := AgAt.new ((w.alloc (.cells #[.slice A n c, .slice B m d, .int .i64 lim] 31)).alloc (.cells #[.int .u32 lo, .int .u32 hi'] 36)) nil0
  simp only [World.size_alloc] at hb1 hb2
  have hk0 : Keep w (((w.alloc (.cells #[.slice A n c, .slice B m d, .int .i64 lim] 31)).alloc (.cells #[.int .u32 lo, .int .u32 hi'] 36)).alloc (.cells #[.int .i64 0, .int .i64 0, .int .i64 0, .int .i64 0] 38)) := (((Keep.refl w).alloc _).alloc _).alloc _
  have hsz : (((w.alloc (.cells #[.slice A n c, .slice B m d, .int .i64 lim] 31)).alloc (.cells #[.int .u32 lo, .int .u32 hi'] 36)).alloc (.cells #[.int .i64 0, .int .i64 0, .int .i64 0, .int .i64 0] 38)).heap.size = w.heap.size + 1 + 1 + 1 := by simp
  have HP := Lib.hid (h.keep hk0)
  have HVR := Lib.hid hvr
  have HB0 := Lib.hid hb0
  have HB1 := Lib.hid hb1
  have HB2 := Lib.hid hb2
  have HK0 := Lib.hid hk0
  have HKs := Lib.hid (KpI.start (((w.alloc (.cells #[.slice A n c, .slice B m d, .int .i64 lim] 31)).alloc (.cells #[.int .u32 lo, .int .u32 hi'] 36)).alloc (.cells #[.int .i64 0, .int .i64 0, .int .i64 0, .int .i64 0] 38)))
  clear h hvr hb0 hb1 hb2 hk0
  obtain ⟨ac, as1, an, ax, hag⟩ : ∃ c s n x, ofL (vs (kvs.filter (inS lo hi'))) = ⟨c, s, n, x⟩ := ⟨_, _, _, _, rfl⟩
  rw [hag]
  have HAG := Lib.hid hag
  clear hag
  go_enter Try.func11, Try.ntmps11
  go_wp2_with fail
  generalize ((w.alloc (.cells #[.slice A n c, .slice B m d, .int .i64 lim] 31)).alloc (.cells #[.int .u32 lo, .int .u32 hi'] 36)).alloc (.cells #[.int .i64 0, .int .i64 0, .int .i64 0, .int .i64 0] 38) = W1 at *
  rw [hsz] at HKs
  have HSZ := Lib.hid hsz
  clear hsz
  go_loopw [5, 6] (fun rv i X => ∃ (j : Nat) (A' : Option Addr) (l c' : Nat), i = .int .i64 j ∧ j ≤ n ∧ rv = .slice A' l c' ∧ Hid (KpI W1 (vs ((kvs.take j).filter (inS lo hi'))) A' l c' X)) (fun _ i _ => n - (intOf i).toNat)
  case atStart => exact ⟨0, _, _, _, rfl, by omega, rfl, HKs⟩
  case round =>
    obtain ⟨j, A', l, c', rfl, hj, rfl, HKP⟩ := hrel
    clear HKs
    have hb0 := HB0.out.keep HKP.out.2.2
    have hb1 := HB1.out.keep HKP.out.2.2
    obtain ⟨x0, x1, x2⟩ := hb0.cells
    by_cases hjl : j < n
    · obtain ⟨p, hp⟩ : ∃ p, kvs[j]? = some p := ⟨_, List.getElem?_eq_getElem (by rw [HP.out.1]; exact hjl)⟩
      obtain ⟨b, off, rfl, hb, c0, c1⟩ := (HP.out.keep HKP.out.2.2).2 j p hp
      have hjI : (j : Int) < (n : Int) := by omega
      have hnx := filter_next (f := inS lo hi') hp
      have hll : l ≤ 1000 := by
        have := HKP.out.1
        have h2 := List.length_filter_le (inS lo hi') (kvs.take j)
        rw [List.length_take] at h2
        rw [vs_length] at this
        omega
      have hnv : vs ((kvs.take (j + 1)).filter (inS lo hi')) = vs ((kvs.take j).filter (inS lo hi')) ++ (if inS lo hi' p = true then [p.2] else []) := by
        rw [hnx, vs_append]
        split <;> rfl
      obtain ⟨zz, hzz⟩ : ∃ zz, zz = vs ((kvs.take j).filter (inS lo hi')) := ⟨_, rfl⟩
      rw [← hzz] at HKP hnv
      have HNX := Lib.hid hnv
      have hml : l + 1 ≤ maxLen := by unfold maxLen; omega
      have HBY := Lib.hid (show (l + 1) * 8 ≤ 140737488355328 by omega)
      have HONE := Lib.hid (show ∀ u ∈ ([.int .i64 p.2] : List Value), u.oneCell' = true from by intro u hu; simp at hu; subst hu; rfl)
      have HC := Lib.hid (show ∀ W, Keep wr W → (W.cell? ⟨b, off + j * 2, none⟩ = some (.int .u32 p.1) ∧ W.cell? ⟨b, off + j * 2 + 1, none⟩ = some (.int .i64 p.2)) from fun W hW => ⟨(hW.cell (p := ⟨b, off + j * 2, none⟩) hb).trans c0, (hW.cell (p := ⟨b, off + j * 2 + 1, none⟩) hb).trans c1⟩)
      have HBOX := Lib.hid (show ∀ W, Keep wr W → (W.cell? ⟨w.heap.size, 0, none⟩ = some (.slice (some ⟨b, off, none⟩) n c)) ∧ (W.cell? ⟨w.heap.size + 1, 0, none⟩ = some (.int .u32 lo) ∧ W.cell? ⟨w.heap.size + 1, 1, none⟩ = some (.int .u32 hi')) ∧ (W.cell? ⟨b, off + j * 2, none⟩ = some (.int .u32 p.1) ∧ W.cell? ⟨b, off + j * 2 + 1, none⟩ = some (.int .i64 p.2)) from fun W hW => ⟨(hb0.keep hW).cells.1, (hb1.keep hW).cells, HC.out W hW⟩)
      have hin := fun W => in_is p.1 lo hi' W
      obtain ⟨bv, hbv⟩ : ∃ bv, inS lo hi' p = bv := ⟨_, rfl⟩
      have hbv' : inS lo hi' (p.1, 0) = bv := hbv
      rw [hbv'] at hin
      have HBV := Lib.hid hbv
      clear hp hb hnx hnv hzz c0 c1 hb0 hb1 hbv hbv' x1 x2
      go_wp2_with fail
      have hKc := (Keep.refl wr).drew
      refine seq_region (S := fun w' => Keep wr w') [⟨0, 4, 32768⟩, ⟨1, 32768, 65536⟩, ⟨0, 64, 131072⟩, ⟨6, 196608, 262144⟩, ⟨8, 262144, 524288⟩, ⟨16, 524288, 1048576⟩, ⟨0, 8, 2097152⟩, ⟨96, 3145728, 4194304⟩] [(0, false), (1, false), (2, false), (3, false), (4, false), (5, false), (6, false), (7, true)] rfl (by kernel_rfl) (by kernel_rfl) (fun _ _ d _ _ h => by cases d <;> exact h) hKc ?_
      simp only [rowsOf, rowAt, gslot, List.map_cons, List.map_nil, List.getElem?_toArray, List.getElem?_cons_zero, List.getElem?_cons_succ]
      repeat (first
        | (refine seq_take (v := ?_) (a' := ?_) (by rfl) ?_ ?_ ?_
           rotate_left 2
           · (intro w hSw; have hcs := HBOX.out w hSw; clear hSw; go_split_ands; go_simp; with_reducible rfl)
           · (simp only [Act.put, List.setIfInBounds_toArray, List.set_cons_zero, List.set_cons_succ]; with_reducible rfl))
        | (refine seq_skip (a' := ?_) hKc (by rfl) ?_ ?_
           rotate_left
           · (simp only [Act.put, List.setIfInBounds_toArray, List.set_cons_zero, List.set_cons_succ]; with_reducible rfl)))
      refine seq_callR (R := fun _ => True) (f := 29) (args := ?_) (v := ?_) (a' := ?_) (by rfl) (by rfl) (by rfl) Try.call29 ?_ ?_ ?_ ?_
      rotate_left 3
      · (go_simp; with_reducible rfl)
      · ((with_reducible refine Calls.mono (hin _) ?_)
         rintro e w' ⟨rfl, hk⟩
         refine ⟨?_, hKc.trans hk, trivial⟩
         with_reducible rfl)
      · (simp only [Act.put, List.setIfInBounds_toArray, List.set_cons_zero, List.set_cons_succ]; with_reducible rfl)
      clear hKc
      intro wn hKc _
      repeat (first
        | (refine seq_take (v := ?_) (a' := ?_) (by rfl) ?_ ?_ ?_
           rotate_left 2
           · (intro w hSw; have hcs := HBOX.out w hSw; clear hSw; go_split_ands; go_simp; with_reducible rfl)
           · (simp only [Act.put, List.setIfInBounds_toArray, List.set_cons_zero, List.set_cons_succ]; with_reducible rfl))
        | (refine seq_skip (a' := ?_) hKc (by rfl) ?_ ?_
           rotate_left
           · (simp only [Act.put, List.setIfInBounds_toArray, List.set_cons_zero, List.set_cons_succ]; with_reducible rfl)))
      refine seq_nil ?_
      have HKP2 := Lib.hid (HKP.out.keep hKc)
      have hb0' := (HB0.out.keep HKP.out.2.2).keep hKc
      obtain ⟨y0, y1, y2⟩ := hb0'.cells
      obtain ⟨c0, c1⟩ := HC.out wn hKc
      clear hKc HBOX hin x0 HKP hb0' HC
      cases bv
      · rw [HBV.out, if_neg (by decide), List.append_nil] at HNX
        go_wp2
        go_roundw
        case rel => exact ⟨j + 1, _, _, _, by go_num, by omega, rfl, by rw [HNX.out]; exact HKP2⟩
        case measure => simp [intOf]; omega
      · rw [HBV.out, if_pos rfl] at HNX
        have HOW := Lib.hid HKP2.out.2.1
        have HNEWS := Lib.hid (one_news wn p.2)
        have HBS := Lib.hid (show W1.heap.size ≤ (wn.alloc (.cells #[.int .i64 p.2] 2)).heap.size by simp; have := HKP2.out.2.2.size; omega)
        go_wp2_with (at_builtin; go_must (refine wpList_append_sz rfl _ _ 57 rfl W1.heap.size 2 i0 (.int .i64 0) 1 8 Try.underlying57 hi hz0 hz1 hz2 rfl (by decide) _ l (vals .i64 zz) rfl (HOW.out.alloc _) ⟨wn.heap.size, 0, none⟩ 1 1 [.int .i64 p.2] rfl rfl HNEWS.out HONE.out hml HBY.out HBS.out ?_); intro A6 c6 w6 hown6 hgrow6 hbl6)
        have HNEW := Lib.hid (HKP2.out.more p.2 hown6 hgrow6)
        clear hown6 hgrow6 hbl6 c0 c1 y0 y1 y2 HKP2 HOW
        go_wp2
        go_roundw
        case rel => exact ⟨j + 1, _, _, _, by go_num, by omega, rfl, by rw [HNX.out]; exact HNEW⟩
        case measure => simp [intOf]; omega
    · have hje : j = n := by omega
      subst hje
      have hjI : ¬ (j : Int) < (j : Int) := by omega
      have hall : kvs.take j = kvs := List.take_of_length_le (by rw [HP.out.1]; exact Nat.le_refl _)
      rw [hall] at HKP
      have hb2 := HB2.out.keep HKP.out.2.2
      have hlz := HKP.out.1
      have hrow := HKP.out.2.1
      obtain ⟨A7, c7, e7, hlies⟩ := Lies.of_row hrow
      have hAB : A7 = A' := by injection e7 with h1 h2 h3; exact h1.symm
      rw [hAB] at hlies
      have hzi : ∀ z ∈ vs (kvs.filter (inS lo hi')), inI z := fun z hz => by
        obtain ⟨p, hp, rfl⟩ := List.mem_map.1 hz
        exact HVR.out p (List.mem_filter.1 hp).1
      have hl6 : l ≤ 1000000 := by
        have h2 := List.length_filter_le (inS lo hi') kvs
        rw [vs_length] at hlz
        have := HP.out.1
        omega
      have hof := rof_any A' l c' _ wr hlies hl6 hzi
      rw [HAG.out] at hof
      have HOF := Lib.hid hof
      have HB2' := Lib.hid (HB2.out.keep HKP.out.2.2)
      have HKW := Lib.hid (HK0.out.trans HKP.out.2.2)
      clear hall hb0 hb1 hlz hrow e7 hAB hlies hzi hl6 HKP hof
      go_wp2_with fail
      refine HOF.out.mono ?_
      rintro e w8 ⟨rfl, hk8⟩
      dsimp only
      have hb2 := HB2'.out.keep hk8
      obtain ⟨z0, z1, z2, z3⟩ := hb2.cells
      dsimp only [nil0] at z0 z1 z2 z3
      obtain ⟨g0, g1, g2, g3⟩ := hb2.free
      have HR2 := Lib.hid hb2
      have HKX := Lib.hid (HKW.out.trans hk8)
      clear hb2 hk8 HOF HB2' x0 x1 x2
      go_wp2_with fail
      have hf := set_at HR2.out ac as1 an ax
      have hk := set_keep (w1 := w8) (p := w.heap.size + 1 + 1) (x := .int .i64 ac) (y := .int .i64 as1) (z := .int .i64 an) (v := .int .i64 ax) HKX.out (by omega)
      clear z0 z1 z2 z3 g0 g1 g2 g3
      generalize (((w8.setCell ⟨w.heap.size + 1 + 1, 0, none⟩ (.int .i64 ac)).setCell ⟨w.heap.size + 1 + 1, 1, none⟩ (.int .i64 as1)).setCell ⟨w.heap.size + 1 + 1, 2, none⟩ (.int .i64 an)).setCell ⟨w.heap.size + 1 + 1, 3, none⟩ (.int .i64 ax) = WF at *
      obtain ⟨x0, x1, x2, x3⟩ := hf.cells
      dsimp only at x0 x1 x2 x3
      exact bodyPost_ret (v := .agg #[.int .i64 ac, .int .i64 as1, .int .i64 an, .int .i64 ax]) (by simp [results, Try.results11, go_sem, x0, x1, x2, x3]) rfl ⟨rfl, hk⟩
end Go.Proofs.Ytopengbflnoneaa
