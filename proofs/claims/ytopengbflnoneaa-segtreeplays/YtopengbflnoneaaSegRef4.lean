/- The document's own trees: Put. -/
import Derived.Test.YtopengbflnoneaaSegRef3
import Derived.Test.YtopengbflnoneaaPair
namespace Go.Proofs.Ytopengbflnoneaa
open Go.RowKit

theorem infoU32 : (Try.prog.info? 32).map (fun i => (i.zero, i.size, i.bytes)) = some (some (.int .u32 0), 1, 4) := by kernel_rfl
theorem one_newsU (w : World) (v : Int) : ∀ j u, ([.int .u32 v] : List Value)[j]? = some u → (w.alloc (.cells #[.int .u32 v] 32)).cell? ((⟨w.heap.size, 0, none⟩ : Addr).add j) = some u := by
  intro j u hu
  have h := World.alloc_heap_new w (.cells #[.int .u32 v] 32)
  rw [addr_add, Nat.zero_add]
  generalize w.alloc (.cells #[.int .u32 v] 32) = V at h ⊢
  rcases j with _ | j
  · simpa [World.cell?, h] using hu
  · simp at hu
set_option maxRecDepth 100000 in
set_option maxHeartbeats 4000000 in
theorem rput_no (A : Option Addr) (n c : Nat) (B : Option Addr) (m d : Nat) (ever : List Int) (lim key v : Int) (w : World) (he : Lies w w.heap.size B m (vals .u32 ever)) (hnl : B = none → d = 0) (hm : m ≤ 900) (her : ∀ z ∈ ever, 0 ≤ z ∧ z < 4294967296) (hk0 : 0 ≤ key ∧ key < 4294967296)
    (hfull : lim < (nd (key :: ever.reverse) : Nat)) :
    Calls Try.prog 12 #[.agg #[.slice A n c, .slice B m d, .int .i64 lim], .int .u32 key, .int .i64 v] w fun e w' => e = .returned (.tuple #[.agg #[.slice A n c, .slice B m d, .int .i64 lim], .bool false]) ∧ Keep w w' := by
  obtain ⟨iU, hU, hu0, hu1, hu2⟩ := info_parts infoU32
  have hb0 := (RB.new w A n c B m d lim).keep ((Keep.refl _).alloc (.cells #[.slice none 0 0, .slice none 0 0, .int .i64 0] 31))
  have hb1 := RB.new (w.alloc (.cells #[.slice A n c, .slice B m d, .int .i64 lim] 31)) none 0 0 none 0 0 0
  simp only [World.size_alloc] at hb1
  have hk0' : Keep w ((w.alloc (.cells #[.slice A n c, .slice B m d, .int .i64 lim] 31)).alloc (.cells #[.slice none 0 0, .slice none 0 0, .int .i64 0] 31)) := ((Keep.refl w).alloc _).alloc _
  have hsz : ((w.alloc (.cells #[.slice A n c, .slice B m d, .int .i64 lim] 31)).alloc (.cells #[.slice none 0 0, .slice none 0 0, .int .i64 0] 31)).heap.size = w.heap.size + 2 := by simp
  have hk2 : Keep ((w.alloc (.cells #[.slice A n c, .slice B m d, .int .i64 lim] 31)).alloc (.cells #[.slice none 0 0, .slice none 0 0, .int .i64 0] 31)) (((w.alloc (.cells #[.slice A n c, .slice B m d, .int .i64 lim] 31)).alloc (.cells #[.slice none 0 0, .slice none 0 0, .int .i64 0] 31)).alloc (.cells #[] 32)) := (Keep.refl _).alloc _
  have hoe := World.ownsRow_made (base := w.heap.size + 2) (e := 32) (size := 1) ((w.alloc (.cells #[.slice A n c, .slice B m d, .int .i64 lim] 31)).alloc (.cells #[.slice none 0 0, .slice none 0 0, .int .i64 0] 31)) #[] 0 (by simp) (by simp) rfl
  rw [hsz] at hoe
  have HOE := Lib.hid hoe
  have HEV := Lib.hid (he.below (hk0'.trans hk2))
  have HNL := Lib.hid hnl
  have HB0 := Lib.hid (hb0.keep hk2)
  have HB1 := Lib.hid (hb1.keep hk2)
  have HKW := Lib.hid (hk0'.trans hk2)
  have HSZ := Lib.hid hsz
  have HER := Lib.hid her
  have HKR := Lib.hid hk0
  have HFULL := Lib.hid hfull
  have HEL := Lib.hid (show ever.length = m by have := he.1; rwa [vals_length] at this)
  clear hb0 hb1 hk0' hsz hk2 hoe he hnl her hk0 hfull
  go_enter Try.func12, Try.ntmps12
  obtain ⟨x0, x1, x2⟩ := HB0.out.cells
  go_wp2_with (first | (at_builtin; refine wpList_append_sz rfl _ _ 29 rfl (w.heap.size + 2) 32 iU (.int .u32 0) 1 4 Try.underlying29 hU hu0 hu1 hu2 rfl (by decide) _ m (vals .u32 ever) rfl (HO3.out.alloc _) ⟨w3.heap.size, 0, none⟩ 1 1 [.int .u32 key] rfl rfl (one_newsU w3 key) (fun u hu => by simp at hu; subst hu; rfl) (by unfold maxLen; omega) (by omega) (by have := HG3.out.size; simp at this ⊢; omega) ?_; intro A4 c4 w4 hown4 hgrow4 hbl4; have HO4 := Lib.hid hown4; have HG4 := Lib.hid hgrow4; clear hown4 hgrow4 hbl4) | (at_builtin; go_must (refine wpList_append_from rfl _ _ 29 rfl (w.heap.size + 2) 32 iU (.int .u32 0) 4 Try.underlying29 hU hu0 hu1 hu2 rfl _ 0 [] rfl HOE.out _ B m d (vals .u32 ever) rfl HEV.out HNL.out (vals_one .u32 ever) (by unfold maxLen; omega) (by omega) (by simp) ?_); intro A3 c3 w3 hown3 hgrow3 hbl3; rw [Nat.zero_add, List.nil_append] at hown3; rw [Nat.zero_add]; have HO3 := Lib.hid hown3; have HG3 := Lib.hid hgrow3; clear hown3 hgrow3 hbl3))
  have hk3 : Keep w w3 := Only.keep HKW.out ((Only.refl (fun k => w.heap.size + 2 ≤ k) _).grown HG3.out (fun k _ e => (HOE.out.lt k e).1)) (fun k hk => by omega)
  have ho3 : Only (fun k => w.heap.size + 2 ≤ k) _ w3 := (Only.refl (fun k => w.heap.size + 2 ≤ k) _).grown HG3.out (fun k _ e => (HOE.out.lt k e).1)
  have ho4 : Only (fun k => w.heap.size + 2 ≤ k) w3 w4 := ((Only.refl (fun k => w.heap.size + 2 ≤ k) w3).alloc _).grown HG4.out (fun k _ e => (HO3.out.lt k e).1)
  have ho := ho3.trans ho4 (fun _ _ h => h)
  have hb0 := HB0.out.only ho (by omega)
  have hb1 := HB1.out.only ho (by omega)
  have hk4 : Keep w w4 := Only.keep hk3 ho4 (fun k hk => by omega)
  have hown := HO4.out
  rw [show vals .u32 ever ++ [.int .u32 key] = vals .u32 (ever ++ [key]) from by rw [vals_append]; rfl] at hown
  have hlies : Lies w4 w4.heap.size A4 (m + 1) (vals .u32 (ever ++ [key])) := by
    obtain ⟨A7, c7, e7, h7⟩ := Lies.of_row hown
    have : A7 = A4 := by injection e7 with h1 h2 h3; exact h1.symm
    rwa [this] at h7
  have hrn : ∀ W, Keep w4 W → _ := fun W hW => rnodes_is A4 (m + 1) c4 (ever ++ [key]) W ((hlies.below hW).more hW.size) (fun z hz => by
    rcases List.mem_append.1 hz with h | h
    · exact HER.out z h
    · simp at h; subst h; exact HKR.out) (by omega)
  rw [show (ever ++ [key]).reverse = key :: ever.reverse from by simp] at hrn
  have HB0' := Lib.hid hb0
  have HB1' := Lib.hid hb1
  have HKX := Lib.hid hk4
  have HOWN := Lib.hid hown
  obtain ⟨nn, hnn⟩ : ∃ nn, nn = nd (key :: ever.reverse) := ⟨_, rfl⟩
  rw [← hnn] at hrn
  have hcmp : lim < (nn : Int) := by rw [hnn]; exact HFULL.out
  have HBOX := Lib.hid (show ∀ W, Keep w4 W → W.cell? ⟨w.heap.size, 2, none⟩ = some (.int .i64 lim) from fun W hW => (hb0.keep hW).cells.2.2)
  have hKc := (Keep.refl w4).drew
  clear hb0 hb1 hk4 hown hlies hk3 ho3 ho4 ho x0 x1 x2 HOE HEV HNL HB0 HB1 HKW HSZ HO3 HG3 HO4 HG4 hnn
  refine seq_region (S := fun w' => Keep w4 w') [⟨0, 256, 262144⟩, ⟨1, 262144, 524288⟩, ⟨0, 8, 1048576⟩, ⟨4, 1048576, 2097152⟩, ⟨10, 2621440, 4194304⟩] [(0, false), (2, false), (3, false), (1, true), (4, false)] rfl (by kernel_rfl) (by kernel_rfl) (fun _ _ d _ _ h => by cases d <;> exact h) hKc ?_
  simp only [rowsOf, rowAt, gslot, List.map_cons, List.map_nil, List.getElem?_toArray, List.getElem?_cons_zero, List.getElem?_cons_succ]
  repeat (first
    | (refine seq_take (v := ?_) (a' := ?_) (by rfl) ?_ ?_ ?_
       rotate_left 2
       · (intro w hSw; have hcs := HBOX.out w hSw; clear hSw; go_split_ands; go_simp; with_reducible rfl)
       · (simp only [Act.put, List.setIfInBounds_toArray, List.set_cons_zero, List.set_cons_succ]; with_reducible rfl))
    | (refine seq_skip (a' := ?_) hKc (by rfl) ?_ ?_
       rotate_left
       · (simp only [Act.put, List.setIfInBounds_toArray, List.set_cons_zero, List.set_cons_succ]; with_reducible rfl)))
  refine seq_callR (R := fun _ => True) (f := 21) (args := ?_) (v := ?_) (a' := ?_) (by rfl) (by rfl) (by rfl) Try.call21 ?_ ?_ ?_ ?_
  rotate_left 3
  · (go_simp; with_reducible rfl)
  · ((with_reducible refine Calls.mono (hrn _ hKc) ?_)
     rintro e w' ⟨rfl, hk⟩
     refine ⟨?_, hKc.trans hk, trivial⟩
     with_reducible rfl)
  · (simp only [Act.put, List.setIfInBounds_toArray, List.set_cons_zero, List.set_cons_succ]; with_reducible rfl)
  clear hKc
  intro wn hKc _
  repeat (first
    | (refine seq_take (v := ?_) (a' := ?_) (by rfl) ?_ ?_ ?_
       rotate_left 2
       · (intro w hSw; have hcs := HBOX.out w hSw; clear hSw; go_split_ands; go_simp; with_reducible rfl)
       · (simp only [Act.put, List.setIfInBounds_toArray, List.set_cons_zero, List.set_cons_succ]; with_reducible rfl))
    | (refine seq_skip (a' := ?_) hKc (by rfl) ?_ ?_
       rotate_left
       · (simp only [Act.put, List.setIfInBounds_toArray, List.set_cons_zero, List.set_cons_succ]; with_reducible rfl)))
  refine seq_nil ?_
  have HB0 := Lib.hid (HB0'.out.keep hKc)
  have HB1 := Lib.hid (HB1'.out.keep hKc)
  have HKW := Lib.hid (HKX.out.trans hKc)
  have HOW := Lib.hid (ownsRow_only HOWN.out (Only.of_keep (fun _ => False) hKc) (fun _ _ h => h))
  clear hKc HBOX hrn HB0' HB1' HKX HOWN
  obtain ⟨x0, x1, x2⟩ := HB0.out.cells
  obtain ⟨f0, f1, f2⟩ := HB0.out.free
  obtain ⟨z0, z1, z2⟩ := HB1.out.cells
  obtain ⟨g0, g1, g2⟩ := HB1.out.free
  go_wp2_with fail
  have hf := HB1.out.stored A n c B m d lim
  have hk := Only.keep HKW.out ((((Only.refl (fun k => k = w.heap.size + 1) wn).setCell ⟨w.heap.size + 1, 0, none⟩ (.slice A n c) rfl).setCell ⟨w.heap.size + 1, 1, none⟩ (.slice B m d) rfl).setCell ⟨w.heap.size + 1, 2, none⟩ (.int .i64 lim) rfl) (fun k hk => by omega)
  clear x0 x1 x2 f0 f1 f2 z0 z1 z2 g0 g1 g2
  generalize ((wn.setCell ⟨w.heap.size + 1, 0, none⟩ (.slice A n c)).setCell ⟨w.heap.size + 1, 1, none⟩ (.slice B m d)).setCell ⟨w.heap.size + 1, 2, none⟩ (.int .i64 lim) = WF at *
  obtain ⟨x0, x1, x2⟩ := hf.cells
  exact bodyPost_ret (v := .tuple #[.agg #[.slice A n c, .slice B m d, .int .i64 lim], .bool false]) (by simp [results, Try.results12, go_sem, x0, x1, x2]) rfl ⟨rfl, hk⟩
theorem RB.ever {w : World} {b n c m d : Nat} {A B : Option Addr} {lim : Int} (h : RB w b A n c B m d lim) (B' : Option Addr) (m' d' : Nat) : RB (w.setCell ⟨b, 1, none⟩ (.slice B' m' d')) b A n c B' m' d' lim := by
  unfold RB at *
  simp only [World.setCell, Array.getElem?_modify, h, if_true, Option.map_some]
  rfl
theorem ins_at {key v : Int} {D kvs : List (Int × Int)} (hD : D = kvs.filter (fun p => !inS key key p)) (hr : Rises kvs) {k : Nat} (hk : k ≤ D.length) (hlo : ∀ i p, i < k → D[i]? = some p → p.1 < key) (hhi : ∀ p, D[k]? = some p → ¬ p.1 < key) :
    D.take k ++ (key, v) :: D.drop k = insK key v kvs := by
  have hrD : Rises D := by rw [hD]; exact hr.sublist List.filter_sublist
  have hne : ∀ p ∈ D, p.1 ≠ key := fun p hp => by
    rw [hD] at hp
    have := (List.mem_filter.1 hp).2
    intro e
    simp [inS, e] at this
  have h1 : ∀ p ∈ D.take k, p.1 < key := fun p hp => by
    obtain ⟨i, hi⟩ := List.getElem?_of_mem hp
    have hik := (List.getElem?_eq_some_iff.1 hi).1
    rw [List.length_take] at hik
    rw [List.getElem?_take_of_lt (by omega)] at hi
    exact hlo i p (by omega) hi
  have h2 : ∀ p ∈ D.drop k, key < p.1 := fun p hp => by
    obtain ⟨i, hi⟩ := List.getElem?_of_mem hp
    rw [List.getElem?_drop] at hi
    have hpD := List.mem_of_getElem? hi
    have hkl : k < D.length := by have := (List.getElem?_eq_some_iff.1 hi).1; omega
    have hq := hhi _ (List.getElem?_eq_getElem hkl)
    have := hne p hpD
    have := hne _ (List.getElem_mem hkl)
    rcases Nat.eq_zero_or_pos i with rfl | hi0
    · rw [Nat.add_zero, List.getElem?_eq_getElem hkl] at hi
      cases hi
      omega
    · have hlt := (List.pairwise_iff_getElem.1 hrD) k (k + i) hkl (List.getElem?_eq_some_iff.1 hi).1 (by omega)
      have e2 := (List.getElem?_eq_some_iff.1 hi).2
      rw [e2] at hlt
      omega
  have e1 : kvs.filter (fun p => decide (p.1 < key)) = D.filter (fun p => decide (p.1 < key)) := by
    rw [hD, List.filter_filter]
    congr 1
    funext p
    by_cases h : p.1 < key
    · have : inS key key p = false := by simp only [inS, decide_eq_false_iff_not]; omega
      simp [h, this]
    · simp [h]
  have e2 : kvs.filter (fun p => decide (key < p.1)) = D.filter (fun p => decide (key < p.1)) := by
    rw [hD, List.filter_filter]
    congr 1
    funext p
    by_cases h : key < p.1
    · have : inS key key p = false := by simp only [inS, decide_eq_false_iff_not]; omega
      simp [h, this]
    · simp [h]
  unfold insK
  rw [e1, e2]
  have d1 : D.filter (fun p => decide (p.1 < key)) = D.take k := by
    conv => lhs; rw [← List.take_append_drop k D]
    rw [List.filter_append, List.filter_eq_self.2 (fun p hp => decide_eq_true (h1 p hp)), List.filter_eq_nil_iff.2 (fun p hp => by have := h2 p hp; simp only [decide_eq_true_eq]; omega), List.append_nil]
  have d2 : D.filter (fun p => decide (key < p.1)) = D.drop k := by
    conv => lhs; rw [← List.take_append_drop k D]
    rw [List.filter_append, List.filter_eq_self.2 (fun p hp => decide_eq_true (h2 p hp)), List.filter_eq_nil_iff.2 (fun p hp => by have := h1 p hp; simp only [decide_eq_true_eq]; omega), List.nil_append]
  rw [d1, d2]
theorem PL.take {w : World} {A : Option Addr} {n : Nat} {kvs : List (Int × Int)} (h : PL w A n kvs) {k : Nat} (hk : k ≤ n) : PL w A k (kvs.take k) :=
  ⟨by rw [List.length_take, h.1]; omega, fun j p hp => by
    have hj := (List.getElem?_eq_some_iff.1 hp).1
    rw [List.length_take] at hj
    rw [List.getElem?_take_of_lt (by omega)] at hp
    exact h.2 j p hp⟩
theorem PL.drop {w : World} {b off n : Nat} {kvs : List (Int × Int)} (h : PL w (some ⟨b, off, none⟩) n kvs) (k : Nat) : PL w (some ⟨b, off + k * 2, none⟩) (n - k) (kvs.drop k) :=
  ⟨by rw [List.length_drop, h.1], fun j p hp => by
    rw [List.getElem?_drop] at hp
    obtain ⟨b', off', e, hb, c0, c1⟩ := h.2 (k + j) p hp
    cases e
    refine ⟨b, off + k * 2, rfl, hb, ?_, ?_⟩
    · rw [show off + k * 2 + j * 2 = off + (k + j) * 2 by omega]; exact c0
    · rw [show off + k * 2 + j * 2 + 1 = off + (k + j) * 2 + 1 by omega]; exact c1⟩
set_option maxRecDepth 100000 in
set_option maxHeartbeats 4000000 in
theorem rput_yes (w : World) (A : Option Addr) (n c : Nat) (kvs : List (Int × Int)) (hpl : PL w A n kvs) (hn : n ≤ 900) (hri : Rises kvs) (B : Option Addr) (m d : Nat) (ever : List Int) (lim key v : Int) (he : Lies w w.heap.size B m (vals .u32 ever)) (hnl : B = none → d = 0) (hm : m ≤ 900) (her : ∀ z ∈ ever, 0 ≤ z ∧ z < 4294967296) (hk0 : 0 ≤ key ∧ key < 4294967296)
    (hfull : ((nd (key :: ever.reverse) : Nat) : Int) ≤ lim) :
    Calls Try.prog 12 #[.agg #[.slice A n c, .slice B m d, .int .i64 lim], .int .u32 key, .int .i64 v] w fun e w' => ∃ A' c' l B' d', e = .returned (.tuple #[.agg #[.slice A' l c', .slice B' (m + 1) d', .int .i64 lim], .bool true]) ∧ l = (insK key v kvs).length ∧ PL w' A' l (insK key v kvs) ∧ Lies w' w'.heap.size B' (m + 1) (vals .u32 (ever ++ [key])) ∧ (B' = none → d' = 0) ∧
      (∀ k off, A' = some ⟨k, off, none⟩ → w.heap.size ≤ k ∧ k < w'.heap.size) ∧ (∀ k off, B' = some ⟨k, off, none⟩ → w.heap.size ≤ k ∧ k < w'.heap.size) ∧ Keep w w' := by
  obtain ⟨iU, hU, hu0, hu1, hu2⟩ := info_parts infoU32
  have hb0 := (RB.new w A n c B m d lim).keep ((Keep.refl _).alloc (.cells #[.slice none 0 0, .slice none 0 0, .int .i64 0] 31))
  have hb1 := RB.new (w.alloc (.cells #[.slice A n c, .slice B m d, .int .i64 lim] 31)) none 0 0 none 0 0 0
  simp only [World.size_alloc] at hb1
  have hk0' : Keep w ((w.alloc (.cells #[.slice A n c, .slice B m d, .int .i64 lim] 31)).alloc (.cells #[.slice none 0 0, .slice none 0 0, .int .i64 0] 31)) := ((Keep.refl w).alloc _).alloc _
  have hsz : ((w.alloc (.cells #[.slice A n c, .slice B m d, .int .i64 lim] 31)).alloc (.cells #[.slice none 0 0, .slice none 0 0, .int .i64 0] 31)).heap.size = w.heap.size + 2 := by simp
  have hk2 : Keep ((w.alloc (.cells #[.slice A n c, .slice B m d, .int .i64 lim] 31)).alloc (.cells #[.slice none 0 0, .slice none 0 0, .int .i64 0] 31)) (((w.alloc (.cells #[.slice A n c, .slice B m d, .int .i64 lim] 31)).alloc (.cells #[.slice none 0 0, .slice none 0 0, .int .i64 0] 31)).alloc (.cells #[] 32)) := (Keep.refl _).alloc _
  have hoe := World.ownsRow_made (base := w.heap.size + 2) (e := 32) (size := 1) ((w.alloc (.cells #[.slice A n c, .slice B m d, .int .i64 lim] 31)).alloc (.cells #[.slice none 0 0, .slice none 0 0, .int .i64 0] 31)) #[] 0 (by simp) (by simp) rfl
  rw [hsz] at hoe
  have HPL := Lib.hid hpl
  have HRI := Lib.hid hri
  have HOE := Lib.hid hoe
  have HEV := Lib.hid (he.below (hk0'.trans hk2))
  have HNL := Lib.hid hnl
  have HB0 := Lib.hid (hb0.keep hk2)
  have HB1 := Lib.hid (hb1.keep hk2)
  have HKW := Lib.hid (hk0'.trans hk2)
  have HSZ := Lib.hid hsz
  have HER := Lib.hid her
  have HKR := Lib.hid hk0
  have HFULL := Lib.hid hfull
  have HEL := Lib.hid (show ever.length = m by have := he.1; rwa [vals_length] at this)
  clear hpl hri hb0 hb1 hk0' hsz hk2 hoe he hnl her hk0 hfull
  go_enter Try.func12, Try.ntmps12
  obtain ⟨x0, x1, x2⟩ := HB0.out.cells
  go_wp2_with (first | (at_builtin; refine wpList_append_sz rfl _ _ 29 rfl (w.heap.size + 2) 32 iU (.int .u32 0) 1 4 Try.underlying29 hU hu0 hu1 hu2 rfl (by decide) _ m (vals .u32 ever) rfl (HO3.out.alloc _) ⟨w3.heap.size, 0, none⟩ 1 1 [.int .u32 key] rfl rfl (one_newsU w3 key) (fun u hu => by simp at hu; subst hu; rfl) (by unfold maxLen; omega) (by omega) (by have := HG3.out.size; simp at this ⊢; omega) ?_; intro A4 c4 w4 hown4 hgrow4 hbl4; have HO4 := Lib.hid hown4; have HG4 := Lib.hid hgrow4; clear hown4 hgrow4 hbl4) | (at_builtin; go_must (refine wpList_append_from rfl _ _ 29 rfl (w.heap.size + 2) 32 iU (.int .u32 0) 4 Try.underlying29 hU hu0 hu1 hu2 rfl _ 0 [] rfl HOE.out _ B m d (vals .u32 ever) rfl HEV.out HNL.out (vals_one .u32 ever) (by unfold maxLen; omega) (by omega) (by simp) ?_); intro A3 c3 w3 hown3 hgrow3 hbl3; rw [Nat.zero_add, List.nil_append] at hown3; rw [Nat.zero_add]; have HO3 := Lib.hid hown3; have HG3 := Lib.hid hgrow3; clear hown3 hgrow3 hbl3))
  have hk3 : Keep w w3 := Only.keep HKW.out ((Only.refl (fun k => w.heap.size + 2 ≤ k) _).grown HG3.out (fun k _ e => (HOE.out.lt k e).1)) (fun k hk => by omega)
  have ho3 : Only (fun k => w.heap.size + 2 ≤ k) _ w3 := (Only.refl (fun k => w.heap.size + 2 ≤ k) _).grown HG3.out (fun k _ e => (HOE.out.lt k e).1)
  have ho4 : Only (fun k => w.heap.size + 2 ≤ k) w3 w4 := ((Only.refl (fun k => w.heap.size + 2 ≤ k) w3).alloc _).grown HG4.out (fun k _ e => (HO3.out.lt k e).1)
  have ho := ho3.trans ho4 (fun _ _ h => h)
  have hb0 := HB0.out.only ho (by omega)
  have hb1 := HB1.out.only ho (by omega)
  have hk4 : Keep w w4 := Only.keep hk3 ho4 (fun k hk => by omega)
  have hown := HO4.out
  rw [show vals .u32 ever ++ [.int .u32 key] = vals .u32 (ever ++ [key]) from by rw [vals_append]; rfl] at hown
  have hlies : Lies w4 w4.heap.size A4 (m + 1) (vals .u32 (ever ++ [key])) := by
    obtain ⟨A7, c7, e7, h7⟩ := Lies.of_row hown
    have : A7 = A4 := by injection e7 with h1 h2 h3; exact h1.symm
    rwa [this] at h7
  have hrn : ∀ W, Keep w4 W → _ := fun W hW => rnodes_is A4 (m + 1) c4 (ever ++ [key]) W ((hlies.below hW).more hW.size) (fun z hz => by
    rcases List.mem_append.1 hz with h | h
    · exact HER.out z h
    · simp at h; subst h; exact HKR.out) (by omega)
  rw [show (ever ++ [key]).reverse = key :: ever.reverse from by simp] at hrn
  have HB0' := Lib.hid hb0
  have HB1' := Lib.hid hb1
  have HKX := Lib.hid hk4
  have HOWN := Lib.hid hown
  obtain ⟨nn, hnn⟩ : ∃ nn, nn = nd (key :: ever.reverse) := ⟨_, rfl⟩
  rw [← hnn] at hrn
  have hcmp : ¬ lim < (nn : Int) := by rw [hnn]; have := HFULL.out; omega
  have HBOX := Lib.hid (show ∀ W, Keep w4 W → W.cell? ⟨w.heap.size, 2, none⟩ = some (.int .i64 lim) from fun W hW => (hb0.keep hW).cells.2.2)
  have hKc := (Keep.refl w4).drew
  clear hb0 hb1 hk4 hown hlies hk3 ho3 ho4 ho x0 x1 x2 HOE HEV HNL HB0 HB1 HKW HSZ HO3 HG3 HO4 HG4 hnn
  refine seq_region (S := fun w' => Keep w4 w') [⟨0, 256, 262144⟩, ⟨1, 262144, 524288⟩, ⟨0, 8, 1048576⟩, ⟨4, 1048576, 2097152⟩, ⟨10, 2621440, 4194304⟩] [(0, false), (2, false), (3, false), (1, true), (4, false)] rfl (by kernel_rfl) (by kernel_rfl) (fun _ _ d _ _ h => by cases d <;> exact h) hKc ?_
  simp only [rowsOf, rowAt, gslot, List.map_cons, List.map_nil, List.getElem?_toArray, List.getElem?_cons_zero, List.getElem?_cons_succ]
  repeat (first
    | (refine seq_take (v := ?_) (a' := ?_) (by rfl) ?_ ?_ ?_
       rotate_left 2
       · (intro w hSw; have hcs := HBOX.out w hSw; clear hSw; go_split_ands; go_simp; with_reducible rfl)
       · (simp only [Act.put, List.setIfInBounds_toArray, List.set_cons_zero, List.set_cons_succ]; with_reducible rfl))
    | (refine seq_skip (a' := ?_) hKc (by rfl) ?_ ?_
       rotate_left
       · (simp only [Act.put, List.setIfInBounds_toArray, List.set_cons_zero, List.set_cons_succ]; with_reducible rfl)))
  refine seq_callR (R := fun _ => True) (f := 21) (args := ?_) (v := ?_) (a' := ?_) (by rfl) (by rfl) (by rfl) Try.call21 ?_ ?_ ?_ ?_
  rotate_left 3
  · (go_simp; with_reducible rfl)
  · ((with_reducible refine Calls.mono (hrn _ hKc) ?_)
     rintro e w' ⟨rfl, hk⟩
     refine ⟨?_, hKc.trans hk, trivial⟩
     with_reducible rfl)
  · (simp only [Act.put, List.setIfInBounds_toArray, List.set_cons_zero, List.set_cons_succ]; with_reducible rfl)
  clear hKc
  intro wn hKc _
  repeat (first
    | (refine seq_take (v := ?_) (a' := ?_) (by rfl) ?_ ?_ ?_
       rotate_left 2
       · (intro w hSw; have hcs := HBOX.out w hSw; clear hSw; go_split_ands; go_simp; with_reducible rfl)
       · (simp only [Act.put, List.setIfInBounds_toArray, List.set_cons_zero, List.set_cons_succ]; with_reducible rfl))
    | (refine seq_skip (a' := ?_) hKc (by rfl) ?_ ?_
       rotate_left
       · (simp only [Act.put, List.setIfInBounds_toArray, List.set_cons_zero, List.set_cons_succ]; with_reducible rfl)))
  refine seq_nil ?_
  have HB0 := Lib.hid (HB0'.out.keep hKc)
  have HB1 := Lib.hid (HB1'.out.keep hKc)
  have HKW := Lib.hid (HKX.out.trans hKc)
  have HOW := Lib.hid (ownsRow_only HOWN.out (Only.of_keep (fun _ => False) hKc) (fun _ _ h => h))
  clear hKc HBOX hrn HB0' HB1' HKX HOWN
  obtain ⟨x0, x1, x2⟩ := HB0.out.cells
  obtain ⟨f0, f1, f2⟩ := HB0.out.free
  obtain ⟨z0, z1, z2⟩ := HB1.out.cells
  obtain ⟨g0, g1, g2⟩ := HB1.out.free
  obtain ⟨iP, hP, hp0, hp1, hp2⟩ := info_parts infoPr
  go_wp2_with fail
  have hb5 := HB0.out.ever A4 (m + 1) c4
  have hk5 : Only (fun k => k = w.heap.size) wn (wn.setCell ⟨w.heap.size, 1, none⟩ (.slice A4 (m + 1) c4)) := (Only.refl (fun k => k = w.heap.size) wn).setCell ⟨w.heap.size, 1, none⟩ (.slice A4 (m + 1) c4) rfl
  have hz5 := HB1.out.only hk5 (by omega)
  have hw5 := Only.keep HKW.out hk5 (fun k e => by omega)
  have ho5 := ownsRow_only HOW.out hk5 (fun g e => by have := (HOW.out.lt g e).1; omega)
  clear x0 x1 x2 f0 f1 f2 z0 z1 z2 g0 g1 g2 hk5 HB0 HB1 HKW HOW
  have HB0 := Lib.hid hb5
  have HB1 := Lib.hid hz5
  have HKW := Lib.hid hw5
  have HOW := Lib.hid ho5
  clear hb5 hz5 hw5 ho5
  generalize wn.setCell ⟨w.heap.size, 1, none⟩ (.slice A4 (m + 1) c4) = V5 at *
  have hdr := rdrop_is A n c kvs A4 (m + 1) c4 lim key V5 (HPL.out.keep HKW.out) (by omega)
  obtain ⟨D, hD⟩ : ∃ D, D = kvs.filter (fun p => !inS key key p) := ⟨_, rfl⟩
  rw [← hD] at hdr
  have HDR := Lib.hid hdr
  have HD := Lib.hid hD
  clear hdr hD
  refine HDR.out.mono ?_
  rintro e w6 ⟨A', c', l, rfl, hlD, hrow, hk6, hne⟩
  obtain ⟨⟨g, rfl⟩, hlc⟩ := own_some hrow hne
  have hb6 := HB0.out.keep hk6
  obtain ⟨x0, x1, x2⟩ := hb6.cells
  obtain ⟨f0, f1, f2⟩ := hb6.free
  have hg6 : V5.heap.size ≤ g ∧ g < w6.heap.size := hrow.lt g rfl
  have hb6l := HB0.out.lt
  have hl900 : l ≤ 900 := by
    have h1 := HPL.out.1
    have h2 := List.length_filter_le (fun p => !inS key key p) kvs
    rw [hlD, HD.out]
    omega
  have HPD := Lib.hid (PL.of_row hrow hlD.symm)
  have HB6 := Lib.hid hb6
  have HZ6 := Lib.hid (HB1.out.keep hk6)
  have HKW6 := Lib.hid (HKW.out.trans hk6)
  have HO6 := Lib.hid (ownsRow_only HOW.out (Only.of_keep (fun _ => False) hk6) (fun _ _ h => h))
  have HLD := Lib.hid hlD
  have HG6 := Lib.hid (show w.heap.size + 1 < V5.heap.size from HB1.out.lt)
  clear hrow hk6 hne hb6 HDR HB0 HB1 HKW HOW hlD
  go_wp2_with fail
  have hb7 := HB6.out.stored (some ⟨g, 0, none⟩) l c' A4 (m + 1) c4 lim
  have hk7 : Only (fun k => k = w.heap.size) w6 (((w6.setCell ⟨w.heap.size, 0, none⟩ (.slice (some ⟨g, 0, none⟩) l c')).setCell ⟨w.heap.size, 1, none⟩ (.slice A4 (m + 1) c4)).setCell ⟨w.heap.size, 2, none⟩ (.int .i64 lim)) := (((Only.refl (fun k => k = w.heap.size) w6).setCell ⟨w.heap.size, 0, none⟩ (.slice (some ⟨g, 0, none⟩) l c') rfl).setCell ⟨w.heap.size, 1, none⟩ (.slice A4 (m + 1) c4) rfl).setCell ⟨w.heap.size, 2, none⟩ (.int .i64 lim) rfl
  have hz7 := HZ6.out.only hk7 (by omega)
  have hw7 := Only.keep HKW6.out hk7 (fun k e => by omega)
  have ho7 := ownsRow_only HO6.out hk7 (fun g e => by have := (HO6.out.lt g e).1; omega)
  have hp7 := HPD.out.only hk7 (fun b off e hb => by cases e; have := HG6.out; omega)
  have HS7 := Lib.hid hk7.size
  clear x0 x1 x2 f0 f1 f2 hk7 HB6 HZ6 HKW6 HO6 HPD
  have HB7 := Lib.hid hb7
  have HZ7 := Lib.hid hz7
  have HKW := Lib.hid hw7
  have HOW := Lib.hid ho7
  have HP7 := Lib.hid hp7
  clear hb7 hz7 hw7 ho7 hp7
  generalize ((w6.setCell ⟨w.heap.size, 0, none⟩ (.slice (some ⟨g, 0, none⟩) l c')).setCell ⟨w.heap.size, 1, none⟩ (.slice A4 (m + 1) c4)).setCell ⟨w.heap.size, 2, none⟩ (.int .i64 lim) = V7 at *
  go_loopw [9] (fun i X => ∃ k : Nat, i = .int .i64 k ∧ k ≤ l ∧ Hid (∀ i p, i < k → D[i]? = some p → p.1 < key) ∧ Hid (Keep V7 X)) (fun i _ => l - (intOf i).toNat)
  case atStart => exact ⟨0, rfl, by omega, Lib.hid (fun i p h => by omega), Lib.hid (Keep.refl V7)⟩
  case round =>
    obtain ⟨k, rfl, hk, HLO, HK⟩ := hrel
    obtain ⟨x0, x1, x2⟩ := (HB7.out.keep HK.out).cells
    by_cases hkl : k < l
    · obtain ⟨p, hp⟩ : ∃ p, D[k]? = some p := ⟨_, List.getElem?_eq_getElem (by rw [← HLD.out]; exact hkl)⟩
      obtain ⟨b, off, e, hb, c0, -⟩ := (HP7.out.keep HK.out).2 k p hp
      cases e
      rw [Nat.zero_add] at c0
      have hkI : (k : Int) < (l : Int) := by omega
      by_cases hlt : p.1 < key
      · have HLO' := Lib.hid (show ∀ i q, i < k + 1 → D[i]? = some q → q.1 < key from fun i q hi hq => by
          rcases Nat.lt_succ_iff_lt_or_eq.1 hi with h | rfl
          · exact HLO.out i q h hq
          · rw [hp] at hq; cases hq; exact hlt)
        have hd : decide (p.1 < key) = true := decide_eq_true hlt
        clear hp hb hlt HLO
        go_wp2_with fail
        go_roundw
        case rel => exact ⟨k + 1, by go_num, by omega, HLO', HK⟩
        case measure => simp [intOf]; omega
      · have hins := ins_at (v := v) HD.out HRI.out (k := k) (by rw [← HLD.out]; omega) HLO.out (fun q hq => by rw [hp] at hq; cases hq; exact hlt)
        have hd : decide (p.1 < key) = false := decide_eq_false hlt
        have HINS := Lib.hid hins
        clear hp hb hlt hins HLO
        have hkc : (k : Int) ≤ (c' : Int) := by omega
        have hkc2 : k ≤ c' := by omega
        have hbx := HB7.out.keep HK.out
        have hzx := HZ7.out.keep HK.out
        have hbl := hbx.lt
        have hgw : g < wr.heap.size := by have := HS7.out; have := HK.out.size; omega
        have hzl := hzx.lt
        have how := World.ownsRow_made (base := wr.heap.size) (e := 61) (size := 2) wr #[] 0 (Nat.le_refl _) (by simp) rfl
        have hpx := (HP7.out.keep HK.out).keep ((Keep.refl wr).alloc (.cells #[] 61))
        have OW0 := Lib.hid how
        have HT := Lib.hid (hpx.take (k := k) (by omega))
        have HDx := Lib.hid hpx
        have HBX := Lib.hid hbx
        have HZX := Lib.hid hzx
        have HKX := Lib.hid (HKW.out.trans HK.out)
        have HEX := Lib.hid (ownsRow_only HOW.out (Only.of_keep (fun _ => False) HK.out) (fun _ _ h => h))
        have hone : ∀ z : Int × Int, (Value.int .u32 z.1).oneCell' = true ∧ (Value.int .i64 z.2).oneCell' = true := fun _ => ⟨rfl, rfl⟩
        have HONE := Lib.hid (pair_one (key, v))
        clear how hpx hbx hzx
        go_wp2_with (first | (at_builtin; have hgo3 := HO9; clear hgo3; go_must (refine Iv.wpList_append_prs (f := fun z : Int × Int => Value.int .u32 z.1) (g := fun z : Int × Int => Value.int .i64 z.2) rfl _ _ 28 rfl wr.heap.size 61 iP (.agg #[.int .u32 0, .int .i64 0]) 16 Try.underlying28 hP hp0 hp1 hp2 rfl hone _ (k + 1) (D.take k ++ [(key, v)]) rfl HO9.out w9.heap.size _ _ _ (D.drop k) rfl ⟨HD3.out.1, HD3.out.2⟩ (fun h => by cases h) (by unfold maxLen; omega) (by omega) (by have := HS9.out; omega) ?_); intro A10 c10 w10 hown10 hgrow10 hbl10; have ho10 : Only (fun q => wr.heap.size ≤ q) wr w10 := HL9.out.trans ((Only.refl (fun q => wr.heap.size ≤ q) w9).grown hgrow10 (fun q _ e => (HO9.out.lt q e).1)) (fun _ _ h => h); have hb10 := HBX.out.only ho10 (by omega); have hz10 := HZX.out.only ho10 (by omega); have HB10 := Lib.hid hb10; have HZ10 := Lib.hid hz10; have HL10 := Lib.hid ho10; have HO10 := Lib.hid hown10; obtain ⟨u0, u1, u2⟩ := hb10.cells; obtain ⟨q0, q1, q2⟩ := hb10.free; obtain ⟨r0, r1, r2⟩ := hz10.cells; obtain ⟨s0, s1, s2⟩ := hz10.free; clear ho10 hown10 hgrow10 hbl10 hb10 hz10) | (at_builtin; refine wpList_append_sz rfl _ _ 28 rfl wr.heap.size 61 iP (.agg #[.int .u32 0, .int .i64 0]) 2 16 Try.underlying28 hP hp0 hp1 hp2 rfl (by decide) _ k (prs (D.take k)) rfl (HO8.out.alloc _) ⟨w8.heap.size, 0, none⟩ 1 1 (prc (key, v)) rfl rfl (pair_news w8 (key, v)) HONE.out (by unfold maxLen; omega) (by omega) (by have := HS8.out; simp; omega) ?_; intro A9 c9 w9 hown9 hgrow9 hbl9; have ho9 : Only (fun q => wr.heap.size ≤ q) wr w9 := HL8.out.trans (((Only.refl (fun q => wr.heap.size ≤ q) w8).alloc _).grown hgrow9 (fun q _ e => (HO8.out.lt q e).1)) (fun _ _ h => h); have HL9 := Lib.hid ho9; go_must (have HO9 := Lib.hid (show w9.ownsRow wr.heap.size 61 2 (.slice A9 (k + 1) c9) (k + 1) (prs (D.take k ++ [(key, v)])) from by rw [prs_append, show prs [(key, v)] = prc (key, v) from by simp [prs]]; exact hown9)); go_must (have HD3 := Lib.hid (show PL w9 (some ⟨g, k * 2, none⟩) (l - k) (D.drop k) from by have h9 := (HP7.out.keep HK.out).only ho9 (fun b off e => by cases e; omega); have := h9.drop k; rw [Nat.zero_add] at this; exact this)); obtain ⟨y0, y1, y2⟩ := (HBX.out.only ho9 (by omega)).cells; have HS9 := Lib.hid ho9.size; clear ho9 hown9 hgrow9 hbl9) | (at_builtin; refine Iv.wpList_append_prs (f := fun z : Int × Int => Value.int .u32 z.1) (g := fun z : Int × Int => Value.int .i64 z.2) rfl _ _ 28 rfl wr.heap.size 61 iP (.agg #[.int .u32 0, .int .i64 0]) 16 Try.underlying28 hP hp0 hp1 hp2 rfl hone _ 0 [] rfl OW0.out (wr.alloc (.cells #[] 61)).heap.size (some ⟨g, 0, none⟩) k c' (D.take k) rfl ⟨HT.out.1, HT.out.2⟩ (fun h => by cases h) (by unfold maxLen; omega) (by omega) (by simp) ?_; intro A8 c8 w8 hown8 hgrow8 hbl8; rw [Nat.zero_add, List.nil_append] at hown8; rw [Nat.zero_add]; have ho8 : Only (fun q => wr.heap.size ≤ q) wr w8 := ((Only.refl (fun q => wr.heap.size ≤ q) wr).alloc _).grown hgrow8 (fun q _ e => (OW0.out.lt q e).1); have HL8 := Lib.hid ho8; have HO8 := Lib.hid (show w8.ownsRow wr.heap.size 61 2 (.slice A8 k c8) k (prs (D.take k)) from hown8); have HS8 := Lib.hid ho8.size; clear ho8 hown8 hgrow8 hbl8))
        have hOb : Only (fun q => q = w.heap.size ∨ q = w.heap.size + 1) w10 ((((w10.setCell ⟨w.heap.size, 0, none⟩ (.slice A10 (k + 1 + (l - k)) c10)).setCell ⟨w.heap.size + 1, 0, none⟩ (.slice A10 (k + 1 + (l - k)) c10)).setCell ⟨w.heap.size + 1, 1, none⟩ (.slice A4 (m + 1) c4)).setCell ⟨w.heap.size + 1, 2, none⟩ (.int .i64 lim)) := ((((Only.refl (fun q => q = w.heap.size ∨ q = w.heap.size + 1) w10).setCell ⟨w.heap.size, 0, none⟩ (.slice A10 (k + 1 + (l - k)) c10) (.inl rfl)).setCell ⟨w.heap.size + 1, 0, none⟩ (.slice A10 (k + 1 + (l - k)) c10) (.inr rfl)).setCell ⟨w.heap.size + 1, 1, none⟩ (.slice A4 (m + 1) c4) (.inr rfl)).setCell ⟨w.heap.size + 1, 2, none⟩ (.int .i64 lim) (.inr rfl)
        have hz11 := (HZ10.out.only ((Only.refl (fun q => q = w.heap.size) w10).setCell ⟨w.heap.size, 0, none⟩ (.slice A10 (k + 1 + (l - k)) c10) rfl) (by omega)).stored A10 (k + 1 + (l - k)) c10 A4 (m + 1) c4 lim
        have hall : Only (fun q => w.heap.size ≤ q) wr _ := (HL10.out.mono (fun q _ h => (by omega : w.heap.size ≤ q))).trans hOb (fun q _ h => (by omega : w.heap.size ≤ q))
        have hkF := Only.keep HKX.out hall (fun q h => h)
        have hrow := ownsRow_only HO10.out hOb (fun g e => by have := (HO10.out.lt g e).1; omega)
        have hevr := ownsRow_only (ownsRow_only HEX.out HL10.out (fun g e => by have := (HEX.out.lt g e).2; omega)) hOb (fun g e => by have := (HEX.out.lt g e).1; omega)
        have hins : (D.take k ++ [(key, v)]) ++ D.drop k = insK key v kvs := by rw [List.append_assoc]; exact HINS.out
        rw [hins] at hrow
        have hlen : (k + 1 + (l - k)) = (insK key v kvs).length := by
          rw [← hins]
          simp only [List.length_append, List.length_take, List.length_drop, List.length_cons, List.length_nil]
          have := HLD.out
          omega
        clear u0 u1 u2 q0 q1 q2 r0 r1 r2 s0 s1 s2 hOb hall x0 x1 x2 y0 y1 y2
        generalize (((w10.setCell ⟨w.heap.size, 0, none⟩ (.slice A10 (k + 1 + (l - k)) c10)).setCell ⟨w.heap.size + 1, 0, none⟩ (.slice A10 (k + 1 + (l - k)) c10)).setCell ⟨w.heap.size + 1, 1, none⟩ (.slice A4 (m + 1) c4)).setCell ⟨w.heap.size + 1, 2, none⟩ (.int .i64 lim) = WF at *
        have hli : Lies WF WF.heap.size A4 (m + 1) (vals .u32 (ever ++ [key])) := by
          obtain ⟨A7, c7, e7, h7⟩ := Lies.of_row hevr
          cases e7
          exact h7
        obtain ⟨x0, x1, x2⟩ := hz11.cells
        have hwr := HKX.out.size
        exact bodyPost_ret (v := .tuple #[.agg #[.slice A10 (k + 1 + (l - k)) c10, .slice A4 (m + 1) c4, .int .i64 lim], .bool true]) (by simp [results, Try.results12, go_sem, x0, x1, x2]) rfl ⟨A10, c10, (k + 1 + (l - k)), A4, c4, rfl, hlen, PL.of_row hrow hlen.symm,
          hli, fun h => absurd h (own_ne hevr),
          fun q off e => by obtain ⟨⟨g2, e2⟩, -⟩ := own_some hrow (by rw [e]; simp); rw [e2] at e; cases e; subst e2; have := hrow.lt q rfl; exact ⟨by omega, this.2⟩,
          fun q off e => by obtain ⟨⟨g2, e2⟩, -⟩ := own_some hevr (own_ne hevr); rw [e2] at e; cases e; subst e2; have := hevr.lt q rfl; exact ⟨by omega, this.2⟩, hkF⟩
    · have hke : k = l := by omega
      have hins := ins_at (v := v) HD.out HRI.out (k := k) (by rw [← HLD.out]; omega) HLO.out (fun q hq => by have := (List.getElem?_eq_some_iff.1 hq).1; have := HLD.out; omega)
      have HINS := Lib.hid hins
      have hkI : ¬ (k : Int) < (l : Int) := by omega
      clear hins HLO
      subst hke
      have hdn : D.drop k = [] := List.drop_eq_nil_of_le (by rw [← HLD.out]; exact Nat.le_refl _)
      rw [hdn] at HINS
      by_cases hkc3 : k = c'
      · subst hkc3
        have hkc : (k : Int) ≤ (k : Int) := by omega
        have hkc2 : k ≤ k := by omega
        have hbx := HB7.out.keep HK.out
        have hzx := HZ7.out.keep HK.out
        have hbl := hbx.lt
        have hgw : g < wr.heap.size := by have := HS7.out; have := HK.out.size; omega
        have hzl := hzx.lt
        have how := World.ownsRow_made (base := wr.heap.size) (e := 61) (size := 2) wr #[] 0 (Nat.le_refl _) (by simp) rfl
        have hpx := (HP7.out.keep HK.out).keep ((Keep.refl wr).alloc (.cells #[] 61))
        have OW0 := Lib.hid how
        have HT := Lib.hid (hpx.take (k := k) (by omega))
        have HDx := Lib.hid hpx
        have HBX := Lib.hid hbx
        have HZX := Lib.hid hzx
        have HKX := Lib.hid (HKW.out.trans HK.out)
        have HEX := Lib.hid (ownsRow_only HOW.out (Only.of_keep (fun _ => False) HK.out) (fun _ _ h => h))
        have hone : ∀ z : Int × Int, (Value.int .u32 z.1).oneCell' = true ∧ (Value.int .i64 z.2).oneCell' = true := fun _ => ⟨rfl, rfl⟩
        have HONE := Lib.hid (pair_one (key, v))
        clear how hpx hbx hzx
        go_wp2_with (first | (at_builtin; have hgo3 := HO9; clear hgo3; go_must (refine Iv.wpList_append_prs (f := fun z : Int × Int => Value.int .u32 z.1) (g := fun z : Int × Int => Value.int .i64 z.2) rfl _ _ 28 rfl wr.heap.size 61 iP (.agg #[.int .u32 0, .int .i64 0]) 16 Try.underlying28 hP hp0 hp1 hp2 rfl hone _ (k + 1) (D.take k ++ [(key, v)]) rfl HO9.out w9.heap.size (some ⟨g, 0, none⟩) 0 0 [] rfl ⟨rfl, fun j p h => by cases h⟩ (fun h => by cases h) (by unfold maxLen; omega) (by omega) (by have := HS9.out; omega) ?_); intro A10 c10 w10 hown10 hgrow10 hbl10; rw [List.append_nil] at hown10; rw [Nat.add_zero] at hown10; rw [Nat.add_zero]; have ho10 : Only (fun q => wr.heap.size ≤ q) wr w10 := HL9.out.trans ((Only.refl (fun q => wr.heap.size ≤ q) w9).grown hgrow10 (fun q _ e => (HO9.out.lt q e).1)) (fun _ _ h => h); have hb10 := HBX.out.only ho10 (by omega); have hz10 := HZX.out.only ho10 (by omega); have HB10 := Lib.hid hb10; have HZ10 := Lib.hid hz10; have HL10 := Lib.hid ho10; have HO10 := Lib.hid hown10; obtain ⟨u0, u1, u2⟩ := hb10.cells; obtain ⟨q0, q1, q2⟩ := hb10.free; obtain ⟨r0, r1, r2⟩ := hz10.cells; obtain ⟨s0, s1, s2⟩ := hz10.free; clear ho10 hown10 hgrow10 hbl10 hb10 hz10) | (at_builtin; refine wpList_append_sz rfl _ _ 28 rfl wr.heap.size 61 iP (.agg #[.int .u32 0, .int .i64 0]) 2 16 Try.underlying28 hP hp0 hp1 hp2 rfl (by decide) _ k (prs (D.take k)) rfl (HO8.out.alloc _) ⟨w8.heap.size, 0, none⟩ 1 1 (prc (key, v)) rfl rfl (pair_news w8 (key, v)) HONE.out (by unfold maxLen; omega) (by omega) (by have := HS8.out; simp; omega) ?_; intro A9 c9 w9 hown9 hgrow9 hbl9; have ho9 : Only (fun q => wr.heap.size ≤ q) wr w9 := HL8.out.trans (((Only.refl (fun q => wr.heap.size ≤ q) w8).alloc _).grown hgrow9 (fun q _ e => (HO8.out.lt q e).1)) (fun _ _ h => h); have HL9 := Lib.hid ho9; go_must (have HO9 := Lib.hid (show w9.ownsRow wr.heap.size 61 2 (.slice A9 (k + 1) c9) (k + 1) (prs (D.take k ++ [(key, v)])) from by rw [prs_append, show prs [(key, v)] = prc (key, v) from by simp [prs]]; exact hown9)); go_must (have HD3 := Lib.hid (show ∀ Aq : Option Addr, PL w9 Aq 0 [] from fun _ => ⟨rfl, fun j p h => by cases h⟩)); obtain ⟨y0, y1, y2⟩ := (HBX.out.only ho9 (by omega)).cells; have HS9 := Lib.hid ho9.size; clear ho9 hown9 hgrow9 hbl9) | (at_builtin; refine Iv.wpList_append_prs (f := fun z : Int × Int => Value.int .u32 z.1) (g := fun z : Int × Int => Value.int .i64 z.2) rfl _ _ 28 rfl wr.heap.size 61 iP (.agg #[.int .u32 0, .int .i64 0]) 16 Try.underlying28 hP hp0 hp1 hp2 rfl hone _ 0 [] rfl OW0.out (wr.alloc (.cells #[] 61)).heap.size (some ⟨g, 0, none⟩) k k (D.take k) rfl ⟨HT.out.1, HT.out.2⟩ (fun h => by cases h) (by unfold maxLen; omega) (by omega) (by simp) ?_; intro A8 c8 w8 hown8 hgrow8 hbl8; rw [Nat.zero_add, List.nil_append] at hown8; rw [Nat.zero_add]; have ho8 : Only (fun q => wr.heap.size ≤ q) wr w8 := ((Only.refl (fun q => wr.heap.size ≤ q) wr).alloc _).grown hgrow8 (fun q _ e => (OW0.out.lt q e).1); have HL8 := Lib.hid ho8; have HO8 := Lib.hid (show w8.ownsRow wr.heap.size 61 2 (.slice A8 k c8) k (prs (D.take k)) from hown8); have HS8 := Lib.hid ho8.size; clear ho8 hown8 hgrow8 hbl8))
        have hOb : Only (fun q => q = w.heap.size ∨ q = w.heap.size + 1) w10 ((((w10.setCell ⟨w.heap.size, 0, none⟩ (.slice A10 (k + 1) c10)).setCell ⟨w.heap.size + 1, 0, none⟩ (.slice A10 (k + 1) c10)).setCell ⟨w.heap.size + 1, 1, none⟩ (.slice A4 (m + 1) c4)).setCell ⟨w.heap.size + 1, 2, none⟩ (.int .i64 lim)) := ((((Only.refl (fun q => q = w.heap.size ∨ q = w.heap.size + 1) w10).setCell ⟨w.heap.size, 0, none⟩ (.slice A10 (k + 1) c10) (.inl rfl)).setCell ⟨w.heap.size + 1, 0, none⟩ (.slice A10 (k + 1) c10) (.inr rfl)).setCell ⟨w.heap.size + 1, 1, none⟩ (.slice A4 (m + 1) c4) (.inr rfl)).setCell ⟨w.heap.size + 1, 2, none⟩ (.int .i64 lim) (.inr rfl)
        have hz11 := (HZ10.out.only ((Only.refl (fun q => q = w.heap.size) w10).setCell ⟨w.heap.size, 0, none⟩ (.slice A10 (k + 1) c10) rfl) (by omega)).stored A10 (k + 1) c10 A4 (m + 1) c4 lim
        have hall : Only (fun q => w.heap.size ≤ q) wr _ := (HL10.out.mono (fun q _ h => (by omega : w.heap.size ≤ q))).trans hOb (fun q _ h => (by omega : w.heap.size ≤ q))
        have hkF := Only.keep HKX.out hall (fun q h => h)
        have hrow := ownsRow_only HO10.out hOb (fun g e => by have := (HO10.out.lt g e).1; omega)
        have hevr := ownsRow_only (ownsRow_only HEX.out HL10.out (fun g e => by have := (HEX.out.lt g e).2; omega)) hOb (fun g e => by have := (HEX.out.lt g e).1; omega)
        have hins : D.take k ++ [(key, v)] = insK key v kvs := HINS.out
        rw [hins] at hrow
        have hlen : (k + 1) = (insK key v kvs).length := by
          rw [← hins]
          simp only [List.length_append, List.length_take, List.length_cons, List.length_nil]
          have := HLD.out
          omega
        clear u0 u1 u2 q0 q1 q2 r0 r1 r2 s0 s1 s2 hOb hall x0 x1 x2 y0 y1 y2
        generalize (((w10.setCell ⟨w.heap.size, 0, none⟩ (.slice A10 (k + 1) c10)).setCell ⟨w.heap.size + 1, 0, none⟩ (.slice A10 (k + 1) c10)).setCell ⟨w.heap.size + 1, 1, none⟩ (.slice A4 (m + 1) c4)).setCell ⟨w.heap.size + 1, 2, none⟩ (.int .i64 lim) = WF at *
        have hli : Lies WF WF.heap.size A4 (m + 1) (vals .u32 (ever ++ [key])) := by
          obtain ⟨A7, c7, e7, h7⟩ := Lies.of_row hevr
          cases e7
          exact h7
        obtain ⟨x0, x1, x2⟩ := hz11.cells
        have hwr := HKX.out.size
        exact bodyPost_ret (v := .tuple #[.agg #[.slice A10 (k + 1) c10, .slice A4 (m + 1) c4, .int .i64 lim], .bool true]) (by simp [results, Try.results12, go_sem, x0, x1, x2]) rfl ⟨A10, c10, (k + 1), A4, c4, rfl, hlen, PL.of_row hrow hlen.symm,
          hli, fun h => absurd h (own_ne hevr),
          fun q off e => by obtain ⟨⟨g2, e2⟩, -⟩ := own_some hrow (by rw [e]; simp); rw [e2] at e; cases e; subst e2; have := hrow.lt q rfl; exact ⟨by omega, this.2⟩,
          fun q off e => by obtain ⟨⟨g2, e2⟩, -⟩ := own_some hevr (own_ne hevr); rw [e2] at e; cases e; subst e2; have := hevr.lt q rfl; exact ⟨by omega, this.2⟩, hkF⟩
      · have hkc : (k : Int) ≤ (c' : Int) := by omega
        have hkc2 : k ≤ c' := by omega
        have hbx := HB7.out.keep HK.out
        have hzx := HZ7.out.keep HK.out
        have hbl := hbx.lt
        have hgw : g < wr.heap.size := by have := HS7.out; have := HK.out.size; omega
        have hzl := hzx.lt
        have how := World.ownsRow_made (base := wr.heap.size) (e := 61) (size := 2) wr #[] 0 (Nat.le_refl _) (by simp) rfl
        have hpx := (HP7.out.keep HK.out).keep ((Keep.refl wr).alloc (.cells #[] 61))
        have OW0 := Lib.hid how
        have HT := Lib.hid (hpx.take (k := k) (by omega))
        have HDx := Lib.hid hpx
        have HBX := Lib.hid hbx
        have HZX := Lib.hid hzx
        have HKX := Lib.hid (HKW.out.trans HK.out)
        have HEX := Lib.hid (ownsRow_only HOW.out (Only.of_keep (fun _ => False) HK.out) (fun _ _ h => h))
        have hone : ∀ z : Int × Int, (Value.int .u32 z.1).oneCell' = true ∧ (Value.int .i64 z.2).oneCell' = true := fun _ => ⟨rfl, rfl⟩
        have HONE := Lib.hid (pair_one (key, v))
        clear how hpx hbx hzx
        go_wp2_with (first | (at_builtin; have hgo3 := HO9; clear hgo3; go_must (refine Iv.wpList_append_prs (f := fun z : Int × Int => Value.int .u32 z.1) (g := fun z : Int × Int => Value.int .i64 z.2) rfl _ _ 28 rfl wr.heap.size 61 iP (.agg #[.int .u32 0, .int .i64 0]) 16 Try.underlying28 hP hp0 hp1 hp2 rfl hone _ (k + 1) (D.take k ++ [(key, v)]) rfl HO9.out w9.heap.size (some ⟨g, k * 2, none⟩) 0 (c' - k) [] rfl ⟨rfl, fun j p h => by cases h⟩ (fun h => by cases h) (by unfold maxLen; omega) (by omega) (by have := HS9.out; omega) ?_); intro A10 c10 w10 hown10 hgrow10 hbl10; rw [List.append_nil] at hown10; rw [Nat.add_zero] at hown10; rw [Nat.add_zero]; have ho10 : Only (fun q => wr.heap.size ≤ q) wr w10 := HL9.out.trans ((Only.refl (fun q => wr.heap.size ≤ q) w9).grown hgrow10 (fun q _ e => (HO9.out.lt q e).1)) (fun _ _ h => h); have hb10 := HBX.out.only ho10 (by omega); have hz10 := HZX.out.only ho10 (by omega); have HB10 := Lib.hid hb10; have HZ10 := Lib.hid hz10; have HL10 := Lib.hid ho10; have HO10 := Lib.hid hown10; obtain ⟨u0, u1, u2⟩ := hb10.cells; obtain ⟨q0, q1, q2⟩ := hb10.free; obtain ⟨r0, r1, r2⟩ := hz10.cells; obtain ⟨s0, s1, s2⟩ := hz10.free; clear ho10 hown10 hgrow10 hbl10 hb10 hz10) | (at_builtin; refine wpList_append_sz rfl _ _ 28 rfl wr.heap.size 61 iP (.agg #[.int .u32 0, .int .i64 0]) 2 16 Try.underlying28 hP hp0 hp1 hp2 rfl (by decide) _ k (prs (D.take k)) rfl (HO8.out.alloc _) ⟨w8.heap.size, 0, none⟩ 1 1 (prc (key, v)) rfl rfl (pair_news w8 (key, v)) HONE.out (by unfold maxLen; omega) (by omega) (by have := HS8.out; simp; omega) ?_; intro A9 c9 w9 hown9 hgrow9 hbl9; have ho9 : Only (fun q => wr.heap.size ≤ q) wr w9 := HL8.out.trans (((Only.refl (fun q => wr.heap.size ≤ q) w8).alloc _).grown hgrow9 (fun q _ e => (HO8.out.lt q e).1)) (fun _ _ h => h); have HL9 := Lib.hid ho9; go_must (have HO9 := Lib.hid (show w9.ownsRow wr.heap.size 61 2 (.slice A9 (k + 1) c9) (k + 1) (prs (D.take k ++ [(key, v)])) from by rw [prs_append, show prs [(key, v)] = prc (key, v) from by simp [prs]]; exact hown9)); go_must (have HD3 := Lib.hid (show ∀ Aq : Option Addr, PL w9 Aq 0 [] from fun _ => ⟨rfl, fun j p h => by cases h⟩)); obtain ⟨y0, y1, y2⟩ := (HBX.out.only ho9 (by omega)).cells; have HS9 := Lib.hid ho9.size; clear ho9 hown9 hgrow9 hbl9) | (at_builtin; refine Iv.wpList_append_prs (f := fun z : Int × Int => Value.int .u32 z.1) (g := fun z : Int × Int => Value.int .i64 z.2) rfl _ _ 28 rfl wr.heap.size 61 iP (.agg #[.int .u32 0, .int .i64 0]) 16 Try.underlying28 hP hp0 hp1 hp2 rfl hone _ 0 [] rfl OW0.out (wr.alloc (.cells #[] 61)).heap.size (some ⟨g, 0, none⟩) k c' (D.take k) rfl ⟨HT.out.1, HT.out.2⟩ (fun h => by cases h) (by unfold maxLen; omega) (by omega) (by simp) ?_; intro A8 c8 w8 hown8 hgrow8 hbl8; rw [Nat.zero_add, List.nil_append] at hown8; rw [Nat.zero_add]; have ho8 : Only (fun q => wr.heap.size ≤ q) wr w8 := ((Only.refl (fun q => wr.heap.size ≤ q) wr).alloc _).grown hgrow8 (fun q _ e => (OW0.out.lt q e).1); have HL8 := Lib.hid ho8; have HO8 := Lib.hid (show w8.ownsRow wr.heap.size 61 2 (.slice A8 k c8) k (prs (D.take k)) from hown8); have HS8 := Lib.hid ho8.size; clear ho8 hown8 hgrow8 hbl8))
        have hOb : Only (fun q => q = w.heap.size ∨ q = w.heap.size + 1) w10 ((((w10.setCell ⟨w.heap.size, 0, none⟩ (.slice A10 (k + 1) c10)).setCell ⟨w.heap.size + 1, 0, none⟩ (.slice A10 (k + 1) c10)).setCell ⟨w.heap.size + 1, 1, none⟩ (.slice A4 (m + 1) c4)).setCell ⟨w.heap.size + 1, 2, none⟩ (.int .i64 lim)) := ((((Only.refl (fun q => q = w.heap.size ∨ q = w.heap.size + 1) w10).setCell ⟨w.heap.size, 0, none⟩ (.slice A10 (k + 1) c10) (.inl rfl)).setCell ⟨w.heap.size + 1, 0, none⟩ (.slice A10 (k + 1) c10) (.inr rfl)).setCell ⟨w.heap.size + 1, 1, none⟩ (.slice A4 (m + 1) c4) (.inr rfl)).setCell ⟨w.heap.size + 1, 2, none⟩ (.int .i64 lim) (.inr rfl)
        have hz11 := (HZ10.out.only ((Only.refl (fun q => q = w.heap.size) w10).setCell ⟨w.heap.size, 0, none⟩ (.slice A10 (k + 1) c10) rfl) (by omega)).stored A10 (k + 1) c10 A4 (m + 1) c4 lim
        have hall : Only (fun q => w.heap.size ≤ q) wr _ := (HL10.out.mono (fun q _ h => (by omega : w.heap.size ≤ q))).trans hOb (fun q _ h => (by omega : w.heap.size ≤ q))
        have hkF := Only.keep HKX.out hall (fun q h => h)
        have hrow := ownsRow_only HO10.out hOb (fun g e => by have := (HO10.out.lt g e).1; omega)
        have hevr := ownsRow_only (ownsRow_only HEX.out HL10.out (fun g e => by have := (HEX.out.lt g e).2; omega)) hOb (fun g e => by have := (HEX.out.lt g e).1; omega)
        have hins : D.take k ++ [(key, v)] = insK key v kvs := HINS.out
        rw [hins] at hrow
        have hlen : (k + 1) = (insK key v kvs).length := by
          rw [← hins]
          simp only [List.length_append, List.length_take, List.length_cons, List.length_nil]
          have := HLD.out
          omega
        clear u0 u1 u2 q0 q1 q2 r0 r1 r2 s0 s1 s2 hOb hall x0 x1 x2 y0 y1 y2
        generalize (((w10.setCell ⟨w.heap.size, 0, none⟩ (.slice A10 (k + 1) c10)).setCell ⟨w.heap.size + 1, 0, none⟩ (.slice A10 (k + 1) c10)).setCell ⟨w.heap.size + 1, 1, none⟩ (.slice A4 (m + 1) c4)).setCell ⟨w.heap.size + 1, 2, none⟩ (.int .i64 lim) = WF at *
        have hli : Lies WF WF.heap.size A4 (m + 1) (vals .u32 (ever ++ [key])) := by
          obtain ⟨A7, c7, e7, h7⟩ := Lies.of_row hevr
          cases e7
          exact h7
        obtain ⟨x0, x1, x2⟩ := hz11.cells
        have hwr := HKX.out.size
        exact bodyPost_ret (v := .tuple #[.agg #[.slice A10 (k + 1) c10, .slice A4 (m + 1) c4, .int .i64 lim], .bool true]) (by simp [results, Try.results12, go_sem, x0, x1, x2]) rfl ⟨A10, c10, (k + 1), A4, c4, rfl, hlen, PL.of_row hrow hlen.symm,
          hli, fun h => absurd h (own_ne hevr),
          fun q off e => by obtain ⟨⟨g2, e2⟩, -⟩ := own_some hrow (by rw [e]; simp); rw [e2] at e; cases e; subst e2; have := hrow.lt q rfl; exact ⟨by omega, this.2⟩,
          fun q off e => by obtain ⟨⟨g2, e2⟩, -⟩ := own_some hevr (own_ne hevr); rw [e2] at e; cases e; subst e2; have := hevr.lt q rfl; exact ⟨by omega, this.2⟩, hkF⟩
end Go.Proofs.Ytopengbflnoneaa
