/- Areas that came in: what a walk is told of them; few. -/
import Derived.Test.YtmdhbbibghpijaaDoorAreaAlive
import Derived.Test.YtmdhbbibghpijaaDoorIvlArg
namespace Go.Proofs.YtmdhbbibghpijaaDoor
open Go.RowKit Go.Joins Go.Deep Go.ChangeShapes Go.WideShapes

/-- The slice at a of length len holds the lists of spans zss. -/
def AArg (w : World) (a : Option Addr) (len cap : Nat) (zss : List (List Sp)) : Prop :=
  len ≤ maxLen ∧ len ≤ cap ∧ (a = none → cap = 0) ∧ zss.length = len ∧ ∀ (i : Nat) (zs : List Sp), zss[i]? = some zs → ∃ b off Ai ci, a = some ⟨b, off, none⟩ ∧ b < w.heap.size ∧ w.cell? ⟨b, off + i, none⟩ = some (.slice Ai zs.length ci) ∧ Arg w Ai zs.length ci zs ∧ zs.length ≤ maxLen
theorem AArg.keep {w w' : World} {a : Option Addr} {len cap : Nat} {zss : List (List Sp)} (h : AArg w a len cap zss) (hk : Keep w w') : AArg w' a len cap zss :=
  ⟨h.1, h.2.1, h.2.2.1, h.2.2.2.1, fun i zs hi => by
    obtain ⟨b, off, Ai, ci, e, hb, hc, hz, hm⟩ := h.2.2.2.2 i zs hi
    exact ⟨b, off, Ai, ci, e, Nat.lt_of_lt_of_le hb hk.size, (hk.cell (p := ⟨b, off + i, none⟩) hb).trans hc, hz.keep hk, hm⟩⟩
/-- Just its keys. -/
def arF (zss : List (List Sp)) : Nat → Int → Bool := fun i k => hasB (zss.getD i []) k
theorem AArg.area {w : World} {a : Option Addr} {len cap : Nat} {zss : List (List Sp)} (h : AArg w a len cap zss) (hf : ∀ zs ∈ zss, zs.length ≤ 20) : Area w a len 20 (arF zss) := by
  refine ⟨fun i hi k => ?_, fun i hi => ?_⟩
  · unfold arF
    rw [List.getD_eq_getElem?_getD, List.getElem?_eq_none (by rw [h.2.2.2.1]; exact hi)]
    rfl
  · have hzl := h.2.2.2.1
    have hil : i < zss.length := by omega
    have hz : zss[i]? = some zss[i] := List.getElem?_eq_getElem hil
    obtain ⟨b, off, Ai, ci, e, hb, hc, hg, -⟩ := h.2.2.2.2 i _ hz
    refine ⟨b, off, Ai, _, ci, e, hb, hc, ⟨_, hg, fun k => ?_⟩, hf _ (List.mem_of_getElem? hz)⟩
    unfold arF
    rw [List.getD_eq_getElem?_getD, hz]
    rfl
section
variable {H : Type} {w : World} {held : Bool}
set_option maxRecDepth 100000 in
theorem open_sps {enc : TypeId × Value → H} {fuel : Nat} {v : Value} {x : DataW H × List MemPlace} (h : DataW.trod enc Tryd.prog w 0 (fun _ => true) held fuel 32 [v] = some x) :
    ∃ (a : Option Addr) (cap : Nat) (zs : List Sp), v = .slice a zs.length cap ∧ Arg w a zs.length cap zs ∧ zs.length ≤ maxLen := by
  have hv : ∃ a l c, v = .slice a l c := by
    rcases open_slice Tryd.underlying32 h with ⟨hcs, _⟩ | ⟨ad, l, c, m, n, D, Pl, hcs, _, hl, hm, hmm, _, hx⟩
    · exact ⟨none, 0, 0, by simpa using hcs⟩
    · exact ⟨some ad, l, c, by simpa using hcs⟩
  obtain ⟨a, l, c, rfl⟩ := hv
  obtain ⟨d, p⟩ := x
  obtain ⟨zs, h1, h2⟩ := open_arg32 enc (d := d) (p := p) ⟨fuel, h⟩
  have := h2.len
  subst this
  exact ⟨a, c, zs, rfl, h2, h1⟩
set_option maxRecDepth 100000 in
theorem open_arg22 (enc : TypeId × Value → H) {a : Option Addr} {len cap : Nat} {d : DataW H} {p : List MemPlace} (h : DataW.Trod enc Tryd.prog w 0 (fun _ => true) held 22 (.slice a len cap) d p) : ∃ zss, AArg w a len cap zss := by
  obtain ⟨fuel, hf⟩ := h
  have ce : Tryd.prog.cellsOf 32 = 1 := by kernel_rfl
  rcases open_slice Tryd.underlying22 hf with ⟨hcs, _⟩ | ⟨ad, l, c, m, n, D, Pl, hcs, _, hl, hm, hmm, _, hx⟩
  · simp [Value.cells] at hcs
    obtain ⟨rfl, rfl, rfl⟩ := hcs
    exact ⟨[], Nat.zero_le _, Nat.le_refl _, fun _ => rfl, rfl, fun i o h => by cases h⟩
  · simp [Value.cells] at hcs
    obtain ⟨rfl, rfl, rfl⟩ := hcs
    have hlm : len ≤ m := by rw [hmm]; simpa using hl
    have hsp : 0 < m → ad.spot = none := by
      intro h0
      obtain ⟨cs', h1, _⟩ := hx 0 h0
      rw [ce] at h1
      obtain ⟨_, hlen, hcell⟩ := World.cells?_some h1
      match cs', hlen with
      | v0 :: rest, _ =>
        have e0 := hcell 0 (by omega)
        simp only [add_add] at e0
        have := World.cell?_spot e0
        simpa [Addr.add] using this
    have each : ∀ i, i < len → ∃ zs : List Sp, ∃ b off Ai ci, some ad = some ⟨b, off, none⟩ ∧ b < w.heap.size ∧ w.cell? ⟨b, off + i, none⟩ = some (.slice Ai zs.length ci) ∧ Arg w Ai zs.length ci zs ∧ zs.length ≤ maxLen := by
      intro i hi
      obtain ⟨cs', h1, h2⟩ := hx i (by omega)
      rw [ce] at h1
      obtain ⟨_, hlen, hcell⟩ := World.cells?_some h1
      match cs', hlen with
      | [v0], _ =>
        obtain ⟨ba, bc, bz, q3, hby, hbl⟩ := open_sps h2
        subst q3
        have e0 := hcell 0 (by omega)
        simp only [add_add] at e0
        obtain ⟨b, off, spot⟩ := ad
        have hspot : spot = none := hsp (by omega)
        subst hspot
        have ea : ∀ q, (⟨b, off, none⟩ : Addr).add q = ⟨b, off + q, none⟩ := fun q => by unfold Addr.add; split <;> simp_all
        simp only [ea] at e0
        exact ⟨bz, b, off, ba, bc, rfl, World.block_lt_of_cell? w _ e0, by simpa using e0, hby, hbl⟩
    obtain ⟨q, hq⟩ := choose_lt each
    refine ⟨(List.range len).map q, by omega, hl, (fun h => by cases h), by simp, fun i zs hi => ?_⟩
    obtain ⟨hlt, rfl⟩ := List.getElem?_eq_some_iff.1 hi
    rw [List.getElem_map, List.getElem_range]
    exact hq i (by simpa using hlt)
end

/-- Are they few, and short? -/
def fewB (zss : List (List Sp)) : Bool := (zss.all fun zs => decide (zs.length ≤ 20)) && decide (zss.length ≤ 20)
theorem fewB_no {zss : List (List Sp)} {j : Nat} {zs : List Sp} (h : zss[j]? = some zs) (hl : 20 < zs.length) : fewB zss = false := by
  unfold fewB
  have : zss.all (fun zs => decide (zs.length ≤ 20)) = false := by
    rw [List.all_eq_false]
    exact ⟨zs, List.mem_of_getElem? h, by simp; omega⟩
  rw [this]; rfl
theorem fewB_all {zss : List (List Sp)} (h : ∀ (i : Nat) (zs : List Sp), zss[i]? = some zs → zs.length ≤ 20) : fewB zss = decide (zss.length ≤ 20) := by
  unfold fewB
  have : zss.all (fun zs => decide (zs.length ≤ 20)) = true := by
    rw [List.all_eq_true]
    intro zs hz
    obtain ⟨i, hi⟩ := List.getElem?_of_mem hz
    simpa using h i zs hi
  rw [this]; rfl
theorem fewB_yes {zss : List (List Sp)} (h : fewB zss = true) : (∀ zs ∈ zss, zs.length ≤ 20) ∧ zss.length ≤ 20 := by
  unfold fewB at h
  simp at h
  exact h
set_option maxRecDepth 100000 in
set_option maxHeartbeats 2000000 in
theorem few_a {w : World} {a : Option Addr} {len cap : Nat} {zss : List (List Sp)} (h : AArg w a len cap zss) :
    Calls Tryd.prog 9 #[.slice a len cap] w fun e w' => e = .returned (.bool (fewB zss)) ∧ w = w' := by
  have hml := h.1
  unfold maxLen at hml
  have hl := h.2.2.2.1
  have H := Lib.hid h
  have HL := Lib.hid hl
  clear h hl
  go_enter Tryd.func9, Tryd.ntmps9
  go_wp2_with fail
  go_loopw [3] (fun i wr => ∃ (j : Nat), i = .int .i64 j ∧ j ≤ len ∧ w = wr ∧ Hid (∀ (i : Nat) (zs : List Sp), i < j → zss[i]? = some zs → zs.length ≤ 20)) (fun i _ => len - (intOf i).toNat)
  case atStart => exact ⟨0, rfl, Nat.zero_le _, by trivial, Lib.hid (fun i zs h => by omega)⟩
  case round =>
    obtain ⟨j, rfl, hj, rfl, HI⟩ := hrel
    by_cases hlt : j < len
    · have hjm : (j : Int) < (len : Int) := by omega
      obtain ⟨zs, hz⟩ : ∃ zs, zss[j]? = some zs := ⟨_, List.getElem?_eq_getElem (by rw [HL.out]; exact hlt)⟩
      obtain ⟨b, off, Ai, ci, e, hb, c0, hg, hm⟩ := H.out.2.2.2.2 j zs hz
      subst e
      have HZ := Lib.hid hz
      unfold maxLen at hm
      obtain ⟨m, hmm⟩ : ∃ m, zs.length = m := ⟨_, rfl⟩
      rw [hmm] at c0 hm
      have HMM := Lib.hid hmm
      clear hz hg hb hmm
      by_cases h20 : 20 < m
      · have hmi : (20 : Int) < (m : Int) := by omega
        have HF := Lib.hid (fewB_no HZ.out (by rw [HMM.out]; exact h20))
        clear HI
        go_wp2_with fail
        go_ret
        exact ⟨by rw [HF.out]; rfl, rfl⟩
      · have hmi : (m : Int) ≤ 20 := by omega
        have HI2 : Hid (∀ (i : Nat) (zs : List Sp), i < j + 1 → zss[i]? = some zs → zs.length ≤ 20) := Lib.hid (fun i ys hi hy => by
          by_cases hij : i = j
          · subst hij
            rw [HZ.out] at hy
            cases hy
            rw [HMM.out]; omega
          · exact HI.out i ys (by omega) hy)
        clear HI
        go_wp2_with fail
        go_roundw
        case rel => exact ⟨j + 1, by go_num, hlt, by trivial, HI2⟩
        case measure => simp [intOf]; omega
    · obtain rfl : j = len := by omega
      have HF := Lib.hid (fewB_all (fun i zs h => HI.out i zs (by have := (List.getElem?_eq_some_iff.1 h).1; rw [HL.out] at this; exact this) h))
      rw [HL.out] at HF
      clear hlt HI
      by_cases h20 : j ≤ 20
      · have h20i : (j : Int) ≤ 20 := by omega
        rw [decide_eq_true h20] at HF
        clear h20
        go_wp2_with fail
        go_ret
        exact ⟨by rw [HF.out]; rfl, rfl⟩
      · have h20i : (20 : Int) < (j : Int) := by omega
        have h20j : decide ((j : Int) ≤ 20) = false := decide_eq_false (by omega)
        rw [decide_eq_false h20] at HF
        clear h20
        go_wp2_with fail
        go_ret
        exact ⟨by rw [HF.out]; rfl, rfl⟩
end Go.Proofs.YtmdhbbibghpijaaDoor
