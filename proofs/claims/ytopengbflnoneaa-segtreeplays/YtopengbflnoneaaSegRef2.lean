/- The document's own trees: Drop, Kill, Fold. -/
import Derived.Test.YtopengbflnoneaaSegRef
import Derived.Test.YtopengbflnoneaaSegPairs
import Derived.Test.YtopengbflnoneaaSegTwo
import Derived.Test.YtopengbflnoneaaAggRef2
namespace Go.Proofs.Ytopengbflnoneaa
open Go.RowKit

/-- The document's tree in a block. -/
def RB (w : World) (b : Nat) (A : Option Addr) (n c : Nat) (B : Option Addr) (m d : Nat) (lim : Int) : Prop := w.heap[b]? = some (.cells #[.slice A n c, .slice B m d, .int .i64 lim] 31 (0, 0))
section
variable {w w' : World} {b n c m d : Nat} {A B : Option Addr} {lim : Int}
theorem RB.new (w : World) (A : Option Addr) (n c : Nat) (B : Option Addr) (m d : Nat) (lim : Int) : RB (w.alloc (.cells #[.slice A n c, .slice B m d, .int .i64 lim] 31)) w.heap.size A n c B m d lim := World.alloc_heap_new _ _
theorem RB.lt (h : RB w b A n c B m d lim) : b < w.heap.size := (Array.getElem?_eq_some_iff.1 h).1
theorem RB.keep (h : RB w b A n c B m d lim) (hk : Keep w w') : RB w' b A n c B m d lim := (hk.block b h.lt).trans h
theorem RB.only {S : Nat → Prop} (h : RB w b A n c B m d lim) (ho : Only S w w') (hS : ¬ S b) : RB w' b A n c B m d lim := (ho.block b h.lt hS).trans h
theorem RB.cells (h : RB w b A n c B m d lim) : w.cell? ⟨b, 0, none⟩ = some (.slice A n c) ∧ w.cell? ⟨b, 1, none⟩ = some (.slice B m d) ∧ w.cell? ⟨b, 2, none⟩ = some (.int .i64 lim) := by
  unfold RB at h
  simp [World.cell?, h]
theorem RB.free (h : RB w b A n c B m d lim) : w.frozen? ⟨b, 0, none⟩ = false ∧ w.frozen? ⟨b, 1, none⟩ = false ∧ w.frozen? ⟨b, 2, none⟩ = false := by
  unfold RB at h
  simp [World.frozen?, h]
theorem RB.row (h : RB w b A n c B m d lim) (A' : Option Addr) (n' c' : Nat) : RB (w.setCell ⟨b, 0, none⟩ (.slice A' n' c')) b A' n' c' B m d lim := by
  unfold RB at *
  simp only [World.setCell, Array.getElem?_modify, h, if_true, Option.map_some]
  rfl
theorem RB.stored (h : RB w b A n c B m d lim) (A' : Option Addr) (n' c' : Nat) (B' : Option Addr) (m' d' : Nat) (lim' : Int) : RB (((w.setCell ⟨b, 0, none⟩ (.slice A' n' c')).setCell ⟨b, 1, none⟩ (.slice B' m' d')).setCell ⟨b, 2, none⟩ (.int .i64 lim')) b A' n' c' B' m' d' lim' := by
  unfold RB at *
  simp only [World.setCell, Array.getElem?_modify, h, if_true, Option.map_some]
  rfl
end
theorem filter_next {f : Int × Int → Bool} {kvs : List (Int × Int)} {j : Nat} {p : Int × Int} (h : kvs[j]? = some p) : (kvs.take (j + 1)).filter f = (kvs.take j).filter f ++ (if f p = true then [p] else []) := by
  rw [List.take_add_one, h, List.filter_append]
  cases hf : f p <;> simp [hf]
theorem own_some {w : World} {base l c : Nat} {A : Option Addr} {e : TypeId} {size : Nat} {xs : List Value} (h : w.ownsRow base e size (.slice A l c) l xs) (hA : A ≠ none) : (∃ g, A = some ⟨g, 0, none⟩) ∧ l ≤ c := by
  rcases h.2 with ⟨h1, h0⟩ | ⟨g, cap, cur, h1, _, _, h2, _⟩
  · simp at h1; exact absurd h1.1 hA
  · simp at h1
    obtain ⟨rfl, rfl⟩ := h1
    exact ⟨⟨g, rfl⟩, h2⟩
theorem own_ne {w : World} {base l c : Nat} {A : Option Addr} {e : TypeId} {size : Nat} {xs : List Value} (h : w.ownsRow base e size (.slice A (l + 1) c) (l + 1) xs) : A ≠ none := by
  rcases h.2 with ⟨h1, h0⟩ | ⟨g, cap, cur, h1, _⟩
  · simp at h1
  · simp at h1; rw [h1.1]; simp
/-- Between two rounds: the pairs that are kept so far, in a row of one's own. -/
def Kpt (w : World) (A : Option Addr) (n c : Nat) (B : Option Addr) (m d : Nat) (lim : Int) (zz : List (Int × Int)) (A' : Option Addr) (l c' : Nat) (X : World) : Prop :=
  l = zz.length ∧ X.ownsRow (w.heap.size + 2) 61 2 (.slice A' l c') l (prs zz) ∧ RB X w.heap.size A n c B m d lim ∧ RB X (w.heap.size + 1) none 0 0 none 0 0 0 ∧ Keep w X ∧ A' ≠ none
section
variable {w X Y : World} {A B A' : Option Addr} {n c m d l c' : Nat} {lim : Int} {zz : List (Int × Int)}
theorem Kpt.keep (h : Kpt w A n c B m d lim zz A' l c' X) (hk : Keep X Y) : Kpt w A n c B m d lim zz A' l c' Y :=
  ⟨h.1, ownsRow_only h.2.1 (Only.of_keep (fun _ => False) hk) (fun _ _ h => h), h.2.2.1.keep hk, h.2.2.2.1.keep hk, h.2.2.2.2.1.trans hk, h.2.2.2.2.2⟩
theorem Kpt.start (w : World) (A : Option Addr) (n c : Nat) (B : Option Addr) (m d : Nat) (lim : Int) : Kpt w A n c B m d lim [] (some ⟨w.heap.size + 1 + 1, 0, none⟩) 0 0 (((w.alloc (.cells #[.slice A n c, .slice B m d, .int .i64 lim] 31)).alloc (.cells #[.slice none 0 0, .slice none 0 0, .int .i64 0] 31)).alloc (.cells #[] 61)) := by
  have hk : Keep (w.alloc (.cells #[.slice A n c, .slice B m d, .int .i64 lim] 31)) (((w.alloc (.cells #[.slice A n c, .slice B m d, .int .i64 lim] 31)).alloc (.cells #[.slice none 0 0, .slice none 0 0, .int .i64 0] 31)).alloc (.cells #[] 61)) := ((Keep.refl _).alloc _).alloc _
  have hb1 := (RB.new (w.alloc (.cells #[.slice A n c, .slice B m d, .int .i64 lim] 31)) none 0 0 none 0 0 0).keep ((Keep.refl _).alloc (.cells #[] 61))
  rw [World.size_alloc] at hb1
  have ho := World.ownsRow_made (base := w.heap.size + 2) (e := 61) (size := 2) ((w.alloc (.cells #[.slice A n c, .slice B m d, .int .i64 lim] 31)).alloc (.cells #[.slice none 0 0, .slice none 0 0, .int .i64 0] 31)) #[] 0 (by simp) (by simp) rfl
  simp only [World.size_alloc] at ho
  exact ⟨rfl, ho, (RB.new w A n c B m d lim).keep hk, hb1, ((Keep.refl w).alloc _).trans hk, by simp⟩
/-- One more, behind an append. -/
theorem Kpt.more (h : Kpt w A n c B m d lim zz A' l c' X) (p : Int × Int) {A6 : Option Addr} {c6 : Nat} {w6 : World} (ho : w6.ownsRow (w.heap.size + 2) 61 2 (.slice A6 (l + 1) c6) (l + 1) (prs zz ++ prc p)) (hg : (X.alloc (.cells #[.int .u32 p.1, .int .i64 p.2] 61)).grownBy w6 (Value.slice A' l c').ownBlock) :
    Kpt w A n c B m d lim (zz ++ [p]) A6 (l + 1) c6 w6 := by
  obtain ⟨h1, h2, h3, h4, h5, -⟩ := h
  have hs := h5.size
  have hl4 := h4.lt
  have hO : Only (fun k => w.heap.size + 2 ≤ k) X w6 := ((Only.refl _ X).alloc _).grown hg (fun k _ e => (h2.lt k e).1)
  refine ⟨by simp [h1], ?_, h3.only hO (by omega), h4.only hO (by omega), Only.keep h5 hO (fun k hk => by omega), own_ne ho⟩
  rw [prs_append, show prs [p] = prc p from by simp [prs]]
  exact ho
end
theorem Kpt.fin {w X : World} {A B A' : Option Addr} {n c m d l c' : Nat} {lim : Int} {zz : List (Int × Int)} (h : Kpt w A n c B m d lim zz A' l c' X) :
    RB ((((X.setCell ⟨w.heap.size, 0, none⟩ (.slice A' l c')).setCell ⟨w.heap.size + 1, 0, none⟩ (.slice A' l c')).setCell ⟨w.heap.size + 1, 1, none⟩ (.slice B m d)).setCell ⟨w.heap.size + 1, 2, none⟩ (.int .i64 lim)) (w.heap.size + 1) A' l c' B m d lim ∧
      World.ownsRow ((((X.setCell ⟨w.heap.size, 0, none⟩ (.slice A' l c')).setCell ⟨w.heap.size + 1, 0, none⟩ (.slice A' l c')).setCell ⟨w.heap.size + 1, 1, none⟩ (.slice B m d)).setCell ⟨w.heap.size + 1, 2, none⟩ (.int .i64 lim)) w.heap.size 61 2 (.slice A' l c') l (prs zz) ∧
      Keep w ((((X.setCell ⟨w.heap.size, 0, none⟩ (.slice A' l c')).setCell ⟨w.heap.size + 1, 0, none⟩ (.slice A' l c')).setCell ⟨w.heap.size + 1, 1, none⟩ (.slice B m d)).setCell ⟨w.heap.size + 1, 2, none⟩ (.int .i64 lim)) := by
  obtain ⟨h1, h2, h3, h4, h5, -⟩ := h
  have hO1 : Only (fun k => k = w.heap.size ∨ k = w.heap.size + 1) X (X.setCell ⟨w.heap.size, 0, none⟩ (.slice A' l c')) := (Only.refl _ X).setCell _ _ (.inl rfl)
  have hO := ((hO1.setCell ⟨w.heap.size + 1, 0, none⟩ (.slice A' l c') (.inr rfl)).setCell ⟨w.heap.size + 1, 1, none⟩ (.slice B m d) (.inr rfl)).setCell ⟨w.heap.size + 1, 2, none⟩ (.int .i64 lim) (.inr rfl)
  have h4' := h4.only ((Only.refl (fun k => k = w.heap.size) X).setCell ⟨w.heap.size, 0, none⟩ (.slice A' l c') rfl) (by omega)
  exact ⟨h4'.stored A' l c' B m d lim, ownsRow_le (ownsRow_only h2 hO (fun g e => by have := (h2.lt g e).1; omega)) (by omega), Only.keep h5 hO (fun k hk => by omega)⟩
set_option maxRecDepth 100000 in
set_option maxHeartbeats 4000000 in
theorem rdrop_is (A : Option Addr) (n c : Nat) (kvs : List (Int × Int)) (B : Option Addr) (m d : Nat) (lim key : Int) (w : World) (h : PL w A n kvs) (hn : n ≤ 1000) :
    Calls Try.prog 14 #[.agg #[.slice A n c, .slice B m d, .int .i64 lim], .int .u32 key] w fun e w' => ∃ A' c' l, e = .returned (.agg #[.slice A' l c', .slice B m d, .int .i64 lim]) ∧ l = (kvs.filter (fun p => !inS key key p)).length ∧
      w'.ownsRow w.heap.size 61 2 (.slice A' l c') l (prs (kvs.filter (fun p => !inS key key p))) ∧ Keep w w' ∧ A' ≠ none := by
  obtain ⟨i0, hi, hz0, hz1, hz2⟩ := info_parts infoPr
  have HP := Lib.hid h
  have HKs := Lib.hid (Kpt.start w A n c B m d lim)
  clear h
  go_enter Try.func14, Try.ntmps14
  go_wp2_with fail
  go_loopw [5, 6] (fun rv i X => ∃ (j : Nat) (A' : Option Addr) (l c' : Nat), i = .int .i64 j ∧ j ≤ n ∧ rv = .slice A' l c' ∧ Hid (Kpt w A n c B m d lim ((kvs.take j).filter (fun p => !inS key key p)) A' l c' X)) (fun _ i _ => n - (intOf i).toNat)
  case atStart => exact ⟨0, _, _, _, rfl, by omega, rfl, HKs⟩
  case round =>
    obtain ⟨j, A', l, c', rfl, hj, rfl, HKP⟩ := hrel
    clear HKs
    obtain ⟨x0, x1, x2⟩ := HKP.out.2.2.1.cells
    by_cases hjl : j < n
    · obtain ⟨p, hp⟩ : ∃ p, kvs[j]? = some p := ⟨_, List.getElem?_eq_getElem (by rw [HP.out.1]; exact hjl)⟩
      obtain ⟨b, off, rfl, hb, c0, c1⟩ := (HP.out.keep HKP.out.2.2.2.2.1).2 j p hp
      have hjI : (j : Int) < (n : Int) := by omega
      have hnx := filter_next (f := fun p => !inS key key p) hp
      have HNX := Lib.hid hnx
      have hll : l ≤ 1000 := by
        have := HKP.out.1
        have h2 := List.length_filter_le (fun p => !inS key key p) (kvs.take j)
        rw [List.length_take] at h2
        omega
      obtain ⟨zz, hzz⟩ : ∃ zz, zz = (kvs.take j).filter (fun p => !inS key key p) := ⟨_, rfl⟩
      rw [← hzz] at HKP hnx
      have HNX := Lib.hid hnx
      have hml : l + 1 ≤ maxLen := by unfold maxLen; omega
      have HBY := Lib.hid (show (l + 1) * 16 ≤ 140737488355328 by omega)
      have HBS := Lib.hid (show w.heap.size + 2 ≤ (wr.alloc (.cells #[.int .u32 p.1, .int .i64 p.2] 61)).heap.size by simp; have := HKP.out.2.2.2.1.lt; omega)
      have HNEWS := Lib.hid (pair_news wr p)
      have HONE : Hid (∀ u ∈ prc p, u.oneCell' = true) := Lib.hid (by
        intro u hu
        simp [prc] at hu
        rcases hu with rfl | rfl <;> rfl)
      clear hp hb hnx hzz
      by_cases hk : p.1 = key
      · have hd : (p.1 != key) = false := by simp [hk]
        have hf : (!inS key key p) = false := by simp [inS, hk]
        rw [hf, if_neg (by decide), List.append_nil] at HNX
        clear hf hk
        go_wp2
        go_roundw
        case rel => exact ⟨j + 1, _, _, _, by go_num, by omega, rfl, by rw [HNX.out]; exact HKP⟩
        case measure => simp [intOf]; omega
      · have hd : (p.1 != key) = true := by simp [hk]
        have hf : (!inS key key p) = true := by
          have : inS key key p = false := by simp only [inS, decide_eq_false_iff_not]; omega
          rw [this]; rfl
        rw [hf, if_pos rfl] at HNX
        clear hf hk
        go_wp2_with (at_builtin; go_must (refine wpList_append_sz rfl _ _ 28 rfl (w.heap.size + 2) 61 i0 (.agg #[.int .u32 0, .int .i64 0]) 2 16 Try.underlying28 hi hz0 hz1 hz2 rfl (by decide) _ l (prs zz) rfl (HKP.out.2.1.alloc _) ⟨wr.heap.size, 0, none⟩ 1 1 (prc p) rfl rfl HNEWS.out HONE.out hml HBY.out HBS.out ?_); intro A6 c6 w6 hown6 hgrow6 hbl6)
        have HNEW := Lib.hid (HKP.out.more p hown6 hgrow6)
        clear hown6 hgrow6 hbl6 c0 c1 x0 x1 x2 HKP
        go_wp2
        go_roundw
        case rel => exact ⟨j + 1, _, _, _, by go_num, by omega, rfl, by rw [HNX.out]; exact HNEW⟩
        case measure => simp [intOf]; omega
    · have hje : j = n := by omega
      subst hje
      have hjI : ¬ (j : Int) < (j : Int) := by omega
      have hall : kvs.take j = kvs := List.take_of_length_le (by rw [HP.out.1]; exact Nat.le_refl _)
      rw [hall] at HKP
      obtain ⟨f0, f1, f2⟩ := HKP.out.2.2.1.free
      obtain ⟨z0, z1, z2⟩ := HKP.out.2.2.2.1.cells
      obtain ⟨g0, g1, g2⟩ := HKP.out.2.2.2.1.free
      clear hall
      go_wp2_with fail
      obtain ⟨hf, hr, hk⟩ := HKP.out.fin
      have hlz := HKP.out.1
      have hne := HKP.out.2.2.2.2.2
      clear x0 x1 x2 f0 f1 f2 z0 z1 z2 g0 g1 g2 HKP
      generalize (((wr.setCell ⟨w.heap.size, 0, none⟩ (.slice A' l c')).setCell ⟨w.heap.size + 1, 0, none⟩ (.slice A' l c')).setCell ⟨w.heap.size + 1, 1, none⟩ (.slice B m d)).setCell ⟨w.heap.size + 1, 2, none⟩ (.int .i64 lim) = WF at *
      obtain ⟨x0, x1, x2⟩ := hf.cells
      exact bodyPost_ret (v := .agg #[.slice A' l c', .slice B m d, .int .i64 lim]) (by simp [results, Try.results14, go_sem, x0, x1, x2]) rfl ⟨A', c', l, rfl, hlz, hr, hk, hne⟩
/-- The pairs that are kept so far, in a row made since W1. -/
def Kp (W1 : World) (zz : List (Int × Int)) (A' : Option Addr) (l c' : Nat) (X : World) : Prop := l = zz.length ∧ X.ownsRow W1.heap.size 61 2 (.slice A' l c') l (prs zz) ∧ Keep W1 X
theorem Kp.keep {W1 X Y : World} {zz : List (Int × Int)} {A' : Option Addr} {l c' : Nat} (h : Kp W1 zz A' l c' X) (hk : Keep X Y) : Kp W1 zz A' l c' Y := ⟨h.1, ownsRow_only h.2.1 (Only.of_keep (fun _ => False) hk) (fun _ _ h => h), h.2.2.trans hk⟩
theorem Kp.start (W1 : World) : Kp W1 [] (some ⟨W1.heap.size, 0, none⟩) 0 0 (W1.alloc (.cells #[] 61)) :=
  ⟨rfl, World.ownsRow_made (base := W1.heap.size) (e := 61) (size := 2) W1 #[] 0 (Nat.le_refl _) (by simp) rfl, (Keep.refl W1).alloc _⟩
theorem Kp.more {W1 X : World} {zz : List (Int × Int)} {A' : Option Addr} {l c' : Nat} (h : Kp W1 zz A' l c' X) (p : Int × Int) {A6 : Option Addr} {c6 : Nat} {w6 : World} (ho : w6.ownsRow W1.heap.size 61 2 (.slice A6 (l + 1) c6) (l + 1) (prs zz ++ prc p)) (hg : (X.alloc (.cells #[.int .u32 p.1, .int .i64 p.2] 61)).grownBy w6 (Value.slice A' l c').ownBlock) :
    Kp W1 (zz ++ [p]) A6 (l + 1) c6 w6 := by
  obtain ⟨h1, h2, h5⟩ := h
  have hO : Only (fun k => W1.heap.size ≤ k) X w6 := ((Only.refl _ X).alloc _).grown hg (fun k _ e => (h2.lt k e).1)
  refine ⟨by simp [h1], ?_, Only.keep h5 hO (fun k hk => hk)⟩
  rw [prs_append, show prs [p] = prc p from by simp [prs]]
  exact ho
theorem pair_one (p : Int × Int) : ∀ u ∈ prc p, u.oneCell' = true := by
  intro u hu
  simp [prc] at hu
  rcases hu with rfl | rfl <;> rfl
set_option maxRecDepth 100000 in
set_option maxHeartbeats 4000000 in
theorem rkill_is (A : Option Addr) (n c : Nat) (kvs : List (Int × Int)) (B : Option Addr) (m d : Nat) (lim lo hi' : Int) (w : World) (h : PL w A n kvs) (hn : n ≤ 1000) :
    Calls Try.prog 16 #[.agg #[.slice A n c, .slice B m d, .int .i64 lim], .agg #[.int .u32 lo, .int .u32 hi']] w fun e w' => ∃ A' c' l, e = .returned (.agg #[.slice A' l c', .slice B m d, .int .i64 lim]) ∧ l = (kvs.filter (fun p => !inS lo hi' p)).length ∧
      w'.ownsRow w.heap.size 61 2 (.slice A' l c') l (prs (kvs.filter (fun p => !inS lo hi' p))) ∧ Keep w w' := by
  obtain ⟨i0, hi, hz0, hz1, hz2⟩ := info_parts infoPr
  have hb0 := ((RB.new w A n c B m d lim).keep ((Keep.refl _).alloc (.cells #[.int .u32 lo, .int .u32 hi'] 36))).keep ((Keep.refl _).alloc (.cells #[.slice none 0 0, .slice none 0 0, .int .i64 0] 31))
  have hb1 := (SpB.new (w.alloc (.cells #[.slice A n c, .slice B m d, .int .i64 lim] 31)) lo hi').keep ((Keep.refl _).alloc (.cells #[.slice none 0 0, .slice none 0 0, .int .i64 0] 31))
  have hb2 := RB.new ((w.alloc (.cells #[.slice A n c, .slice B m d, .int .i64 lim] 31)).alloc (.cells #[.int .u32 lo, .int .u32 hi'] 36)) none 0 0 none 0 0 0
  simp only [World.size_alloc] at hb1 hb2
  have hk0 : Keep w (((w.alloc (.cells #[.slice A n c, .slice B m d, .int .i64 lim] 31)).alloc (.cells #[.int .u32 lo, .int .u32 hi'] 36)).alloc (.cells #[.slice none 0 0, .slice none 0 0, .int .i64 0] 31)) := (((Keep.refl w).alloc _).alloc _).alloc _
  have hsz : (((w.alloc (.cells #[.slice A n c, .slice B m d, .int .i64 lim] 31)).alloc (.cells #[.int .u32 lo, .int .u32 hi'] 36)).alloc (.cells #[.slice none 0 0, .slice none 0 0, .int .i64 0] 31)).heap.size = w.heap.size + 1 + 1 + 1 := by simp
  have HP := Lib.hid (h.keep hk0)
  have HB0 := Lib.hid hb0
  have HB1 := Lib.hid hb1
  have HB2 := Lib.hid hb2
  have HK0 := Lib.hid hk0
  have HKs := Lib.hid (Kp.start (((w.alloc (.cells #[.slice A n c, .slice B m d, .int .i64 lim] 31)).alloc (.cells #[.int .u32 lo, .int .u32 hi'] 36)).alloc (.cells #[.slice none 0 0, .slice none 0 0, .int .i64 0] 31)))
  clear h hb0 hb1 hb2 hk0
  go_enter Try.func16, Try.ntmps16
  go_wp2_with fail
  generalize ((w.alloc (.cells #[.slice A n c, .slice B m d, .int .i64 lim] 31)).alloc (.cells #[.int .u32 lo, .int .u32 hi'] 36)).alloc (.cells #[.slice none 0 0, .slice none 0 0, .int .i64 0] 31) = W1 at *
  rw [hsz] at HKs
  have HSZ := Lib.hid hsz
  clear hsz
  go_loopw [5, 6] (fun rv i X => ∃ (j : Nat) (A' : Option Addr) (l c' : Nat), i = .int .i64 j ∧ j ≤ n ∧ rv = .slice A' l c' ∧ Hid (Kp W1 ((kvs.take j).filter (fun p => !inS lo hi' p)) A' l c' X)) (fun _ i _ => n - (intOf i).toNat)
  case atStart => exact ⟨0, _, _, _, rfl, by omega, rfl, HKs⟩
  case round =>
    obtain ⟨j, A', l, c', rfl, hj, rfl, HKP⟩ := hrel
    clear HKs
    have hb0 := HB0.out.keep HKP.out.2.2
    have hb1 := HB1.out.keep HKP.out.2.2
    obtain ⟨x0, x1, x2⟩ := hb0.cells
    by_cases hjl : j < n
    · obtain ⟨p, hp⟩ : ∃ p, kvs[j]? = some p := ⟨_, List.getElem?_eq_getElem (by rw [HP.out.1]; exact hjl)⟩
      obtain ⟨b, off, rfl, hb, c0, c1⟩ := (HP.out.keep HKP.out.2.2).2 j p hp
      have hjI : (j : Int) < (n : Int) := by omega
      have hnx := filter_next (f := fun p => !inS lo hi' p) hp
      have hll : l ≤ 1000 := by
        have := HKP.out.1
        have h2 := List.length_filter_le (fun p => !inS lo hi' p) (kvs.take j)
        rw [List.length_take] at h2
        omega
      obtain ⟨zz, hzz⟩ : ∃ zz, zz = (kvs.take j).filter (fun p => !inS lo hi' p) := ⟨_, rfl⟩
      rw [← hzz] at HKP hnx
      have HNX := Lib.hid hnx
      have hml : l + 1 ≤ maxLen := by unfold maxLen; omega
      have HBY := Lib.hid (show (l + 1) * 16 ≤ 140737488355328 by omega)
      have HONE := Lib.hid (pair_one p)
      have HC := Lib.hid (show ∀ W, Keep wr W → (W.cell? ⟨b, off + j * 2, none⟩ = some (.int .u32 p.1) ∧ W.cell? ⟨b, off + j * 2 + 1, none⟩ = some (.int .i64 p.2)) from fun W hW => ⟨(hW.cell (p := ⟨b, off + j * 2, none⟩) hb).trans c0, (hW.cell (p := ⟨b, off + j * 2 + 1, none⟩) hb).trans c1⟩)
      have HBOX := Lib.hid (show ∀ W, Keep wr W → (W.cell? ⟨w.heap.size, 0, none⟩ = some (.slice (some ⟨b, off, none⟩) n c)) ∧ (W.cell? ⟨w.heap.size + 1, 0, none⟩ = some (.int .u32 lo) ∧ W.cell? ⟨w.heap.size + 1, 1, none⟩ = some (.int .u32 hi')) ∧ (W.cell? ⟨b, off + j * 2, none⟩ = some (.int .u32 p.1) ∧ W.cell? ⟨b, off + j * 2 + 1, none⟩ = some (.int .i64 p.2)) from fun W hW => ⟨(hb0.keep hW).cells.1, (hb1.keep hW).cells, HC.out W hW⟩)
      have hin := fun W => in_is p.1 lo hi' W
      obtain ⟨bv, hbv⟩ : ∃ bv, inS lo hi' p = bv := ⟨_, rfl⟩
      have hbv' : inS lo hi' (p.1, 0) = bv := hbv
      rw [hbv'] at hin
      have HBV := Lib.hid hbv
      clear hp hb hnx hzz c0 c1 hb0 hb1 hbv hbv' x1 x2
      go_wp2_with fail
      have hKc := (Keep.refl wr).drew
      refine seq_region (S := fun w' => Keep wr w') [⟨0, 4, 32768⟩, ⟨1, 32768, 65536⟩, ⟨0, 64, 131072⟩, ⟨6, 196608, 262144⟩, ⟨8, 262144, 524288⟩, ⟨16, 524288, 1048576⟩, ⟨0, 8, 2097152⟩, ⟨96, 3145728, 4194304⟩, ⟨128, 4194304, 8388608⟩] [(0, false), (1, false), (2, false), (3, false), (4, false), (5, false), (6, false), (7, true), (8, false)] rfl (by kernel_rfl) (by kernel_rfl) (fun _ _ d _ _ h => by cases d <;> exact h) hKc ?_
      simp only [rowsOf, rowAt, gslot, List.map_cons, List.map_nil, List.getElem?_toArray, List.getElem?_cons_zero, List.getElem?_cons_succ]
      repeat (first
        | (refine seq_take (v := ?_) (a' := ?_) (by rfl) ?_ ?_ ?_
           rotate_left 2
           · (intro w hSw; have hcs := HBOX.out w hSw; clear hSw; go_split_ands; go_simp; with_reducible rfl)
           · (simp only [Act.put, List.setIfInBounds_toArray, List.set_cons_zero, List.set_cons_succ]; with_reducible rfl))
        | (refine seq_skip (a' := ?_) hKc (by rfl) ?_ ?_
           rotate_left
           · (simp only [Act.put, List.setIfInBounds_toArray, List.set_cons_zero, List.set_cons_succ]; with_reducible rfl)))
      refine seq_callR (R := fun _ => True) (f := 29) (args := ?_) (v := ?_) (a' := ?_) (by rfl) (by rfl) (by rfl) Try.call29 ?_ ?_ ?_ ?_
      rotate_left 3
      · (go_simp; with_reducible rfl)
      · ((with_reducible refine Calls.mono (hin _) ?_)
         rintro e w' ⟨rfl, hk⟩
         refine ⟨?_, hKc.trans hk, trivial⟩
         with_reducible rfl)
      · (simp only [Act.put, List.setIfInBounds_toArray, List.set_cons_zero, List.set_cons_succ]; with_reducible rfl)
      clear hKc
      intro wn hKc _
      repeat (first
        | (refine seq_take (v := ?_) (a' := ?_) (by rfl) ?_ ?_ ?_
           rotate_left 2
           · (intro w hSw; have hcs := HBOX.out w hSw; clear hSw; go_split_ands; go_simp; with_reducible rfl)
           · (simp only [Act.put, List.setIfInBounds_toArray, List.set_cons_zero, List.set_cons_succ]; with_reducible rfl))
        | (refine seq_skip (a' := ?_) hKc (by rfl) ?_ ?_
           rotate_left
           · (simp only [Act.put, List.setIfInBounds_toArray, List.set_cons_zero, List.set_cons_succ]; with_reducible rfl)))
      refine seq_nil ?_
      have HKP2 := Lib.hid (HKP.out.keep hKc)
      have hb0' := (HB0.out.keep HKP.out.2.2).keep hKc
      obtain ⟨y0, y1, y2⟩ := hb0'.cells
      obtain ⟨c0, c1⟩ := HC.out wn hKc
      clear hKc HBOX hin x0 HKP hb0' HC
      cases bv
      · rw [HBV.out] at HNX
        rw [show (!false) = true from rfl, if_pos rfl] at HNX
        have HOW := Lib.hid HKP2.out.2.1
        have HNEWS := Lib.hid (pair_news wn p)
        have HBS := Lib.hid (show W1.heap.size ≤ (wn.alloc (.cells #[.int .u32 p.1, .int .i64 p.2] 61)).heap.size by simp; have := HKP2.out.2.2.size; omega)
        go_wp2_with (at_builtin; go_must (refine wpList_append_sz rfl _ _ 28 rfl W1.heap.size 61 i0 (.agg #[.int .u32 0, .int .i64 0]) 2 16 Try.underlying28 hi hz0 hz1 hz2 rfl (by decide) _ l (prs zz) rfl (HOW.out.alloc _) ⟨wn.heap.size, 0, none⟩ 1 1 (prc p) rfl rfl HNEWS.out HONE.out hml HBY.out HBS.out ?_); intro A6 c6 w6 hown6 hgrow6 hbl6)
        have HNEW := Lib.hid (HKP2.out.more p hown6 hgrow6)
        clear hown6 hgrow6 hbl6 c0 c1 y0 y1 y2 HKP2 HOW
        go_wp2
        go_roundw
        case rel => exact ⟨j + 1, _, _, _, by go_num, by omega, rfl, by rw [HNX.out]; exact HNEW⟩
        case measure => simp [intOf]; omega
      · rw [HBV.out] at HNX
        rw [show (!true) = false from rfl, if_neg (by decide), List.append_nil] at HNX
        go_wp2
        go_roundw
        case rel => exact ⟨j + 1, _, _, _, by go_num, by omega, rfl, by rw [HNX.out]; exact HKP2⟩
        case measure => simp [intOf]; omega
    · have hje : j = n := by omega
      subst hje
      have hjI : ¬ (j : Int) < (j : Int) := by omega
      have hall : kvs.take j = kvs := List.take_of_length_le (by rw [HP.out.1]; exact Nat.le_refl _)
      rw [hall] at HKP
      have hb2 := HB2.out.keep HKP.out.2.2
      obtain ⟨f0, f1, f2⟩ := hb0.free
      obtain ⟨z0, z1, z2⟩ := hb2.cells
      obtain ⟨g0, g1, g2⟩ := hb2.free
      have HR2 := Lib.hid hb2
      clear hall hb0 hb1 hb2
      go_wp2_with fail
      have hO1 : Only (fun k => k = w.heap.size ∨ k = w.heap.size + 1 + 1) wr (wr.setCell ⟨w.heap.size, 0, none⟩ (.slice A' l c')) := (Only.refl _ wr).setCell _ _ (.inl rfl)
      have hO := ((hO1.setCell ⟨w.heap.size + 1 + 1, 0, none⟩ (.slice A' l c') (.inr rfl)).setCell ⟨w.heap.size + 1 + 1, 1, none⟩ (.slice B m d) (.inr rfl)).setCell ⟨w.heap.size + 1 + 1, 2, none⟩ (.int .i64 lim) (.inr rfl)
      have h4' := HR2.out.only ((Only.refl (fun k => k = w.heap.size) wr).setCell ⟨w.heap.size, 0, none⟩ (.slice A' l c') rfl) (by omega)
      have hf := h4'.stored A' l c' B m d lim
      have hr := ownsRow_le (base' := w.heap.size) (ownsRow_only HKP.out.2.1 hO (fun g e => by have := (HKP.out.2.1.lt g e).1; have := HSZ.out; omega)) (by have := HSZ.out; omega)
      have hk := Only.keep (HK0.out.trans HKP.out.2.2) hO (fun k hk => by omega)
      have hlz := HKP.out.1
      clear x0 x1 x2 f0 f1 f2 z0 z1 z2 g0 g1 g2 HKP hO hO1 h4' HR2
      generalize (((wr.setCell ⟨w.heap.size, 0, none⟩ (.slice A' l c')).setCell ⟨w.heap.size + 1 + 1, 0, none⟩ (.slice A' l c')).setCell ⟨w.heap.size + 1 + 1, 1, none⟩ (.slice B m d)).setCell ⟨w.heap.size + 1 + 1, 2, none⟩ (.int .i64 lim) = WF at *
      obtain ⟨x0, x1, x2⟩ := hf.cells
      exact bodyPost_ret (v := .agg #[.slice A' l c', .slice B m d, .int .i64 lim]) (by simp [results, Try.results16, go_sem, x0, x1, x2]) rfl ⟨A', c', l, rfl, hlz, hr, hk⟩
end Go.Proofs.Ytopengbflnoneaa
