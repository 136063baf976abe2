/- Slices of slices of bytes, wherever they lie; the document's Same of two of them; such a list as an argument. -/
import Derived.Test.YtjhakgnjodocpaaFrmMath2
import Derived.Test.YtjhakgnjodocpaaSeq
import Derived.Test.YtjhakgnjodocpaaArr2
import Derived.Deep.Slices
import Derived.ChangeSame
import Derived.OpenShut
namespace Go.Proofs.Ytjhakgnjodocpaa
open Go.RowKit Go.Deep Go.ChangeShapes Go.WideShapes

/-- A slice of n slices: the rows of bytes yss. -/
structure Brs (w : World) (B : Nat) (A : Option Addr) (n : Nat) (yss : List (List Int)) : Prop where
  len : yss.length = n
  get : ∀ (j : Nat) (ys : List Int), yss[j]? = some ys → ∃ b off Aj cj, A = some ⟨b, off, none⟩ ∧ b < B ∧ w.cell? ⟨b, off + j, none⟩ = some (.slice Aj ys.length cj) ∧ By w B Aj ys.length cj ys
theorem Brs.keep {w w' : World} {B : Nat} {A : Option Addr} {n : Nat} {yss : List (List Int)} (h : Brs w B A n yss) (hk : Keep w w') (hB : B ≤ w.heap.size) : Brs w' B A n yss :=
  ⟨h.len, fun j ys hj => by
    obtain ⟨b, off, Aj, cj, e, hb, hc, hy⟩ := h.get j ys hj
    exact ⟨b, off, Aj, cj, e, hb, (hk.cell (p := ⟨b, off + j, none⟩) (Nat.lt_of_lt_of_le hb hB)).trans hc, hy.keep hk hB⟩⟩
theorem Brs.of_bod {w : World} {base : Nat} {A : Option Addr} {n : Nat} {vs : List Value} {yss : List (List Int)} (h : Bod w base vs yss) (hl : Lies w w.heap.size A n vs) : Brs w w.heap.size A n yss :=
  ⟨by rw [← h.1]; exact hl.1, fun j ys hj => by
    have hj' : j < vs.length := by rw [h.1]; exact (List.getElem?_eq_some_iff.1 hj).1
    obtain ⟨b, off, e, hB, hc⟩ := hl.2 (by rw [← hl.1]; omega)
    have h1 : vs[j]? = some vs[j] := List.getElem?_eq_getElem hj'
    obtain ⟨Aj, cj, hv, hy⟩ := By.of_row (h.2 j _ _ h1 hj)
    refine ⟨b, off, Aj, cj, e, hB, ?_, hy⟩
    rw [hc j (by rw [← hl.1]; exact hj'), ← hv, List.getD_eq_getElem?_getD, h1]
    rfl⟩
theorem Bod.append {w : World} {base : Nat} {vs vs2 : List Value} {yss yss2 : List (List Int)} (h : Bod w base vs yss) (h2 : Bod w base vs2 yss2) : Bod w base (vs ++ vs2) (yss ++ yss2) := by
  refine ⟨by simp [h.1, h2.1], fun i u zs h3 h4 => ?_⟩
  rcases Nat.lt_or_ge i vs.length with hi | hi
  · rw [List.getElem?_append_left hi] at h3
    rw [List.getElem?_append_left (by rw [← h.1]; exact hi)] at h4
    exact h.2 i u zs h3 h4
  · rw [List.getElem?_append_right hi] at h3
    rw [List.getElem?_append_right (by rw [← h.1]; exact hi), ← h.1] at h4
    exact h2.2 _ u zs h3 h4

set_option maxRecDepth 100000 in
set_option maxHeartbeats 2000000 in
theorem rsame_is (A : Option Addr) (n c : Nat) (A2 : Option Addr) (c2 : Nat) (yss : List (List Int)) (w : World) (B B2 : Nat) (hB : B ≤ w.heap.size) (hB2 : B2 ≤ w.heap.size) (h : Brs w B A n yss) (h2 : Brs w B2 A2 n yss) (hn : n ≤ 1000000) :
    Calls Try.prog 15 #[.slice A n c, .slice A2 n c2] w fun e w' => e = .returned (.bool true) ∧ Keep w w' := by
  have HB := Lib.hid h
  have HB2 := Lib.hid h2
  have HN := Lib.hid h.len
  clear h h2
  go_enter Try.func15, Try.ntmps15
  go_wp2_with fail
  go_loopw [5] (fun i wr => ∃ (j : Nat), j ≤ n ∧ i = .int .i64 j ∧ Keep w wr) (fun i _ => n - (intOf i).toNat)
  case atStart => exact ⟨0, Nat.zero_le _, rfl, Keep.refl _⟩
  case round =>
    obtain ⟨j, hj, rfl, hk⟩ := hrel
    by_cases hlt : j < n
    · obtain ⟨ys, hys⟩ : ∃ ys, yss[j]? = some ys := ⟨_, List.getElem?_eq_getElem (by rw [HN.out]; exact hlt)⟩
      obtain ⟨b, off, Aj, cj, rfl, hb, hc, hy⟩ := (HB.out.keep hk hB).get j ys hys
      obtain ⟨b2, off2, Ak, ck, rfl, hb2, hc2, hy2⟩ := (HB2.out.keep hk hB2).get j ys hys
      have HY := Lib.hid hy
      have HY2 := Lib.hid hy2
      have hs := hk.size
      have q1 : (j : Int) < (n : Int) := by omega
      have q2 : (0 : Int) ≤ (j : Int) := by omega
      have HS := Lib.hid (show ∀ w', Keep wr w' → Keep wr w' ∧ (w'.cell? ⟨b, off + j, none⟩ = some (.slice Aj ys.length cj) ∧ w'.cell? ⟨b2, off2 + j, none⟩ = some (.slice Ak ys.length ck)) from
        fun w' h => ⟨h, (h.cell (p := ⟨b, off + j, none⟩) (by show b < _; omega)).trans hc, (h.cell (p := ⟨b2, off2 + j, none⟩) (by show b2 < _; omega)).trans hc2⟩)
      clear hy hy2 hc hc2 hys
      go_wp2_with fail
      have hKc : Keep wr wr.drew := (Keep.refl _).drew
      have hBr := Lib.hid (Nat.le_trans hB hs)
      have hBr2 := Lib.hid (Nat.le_trans hB2 hs)
      refine seq_region (S := fun w' => Keep wr w' ∧ (w'.cell? ⟨b, off + j, none⟩ = some (.slice Aj ys.length cj) ∧ w'.cell? ⟨b2, off2 + j, none⟩ = some (.slice Ak ys.length ck))) [⟨0, 1, 131072⟩, ⟨0, 32, 262144⟩, ⟨3, 393216, 524288⟩, ⟨4, 524288, 1048576⟩, ⟨0, 2, 2097152⟩, ⟨0, 32, 4194304⟩, ⟨48, 6291456, 8388608⟩, ⟨64, 8388608, 16777216⟩, ⟨136, 17825792, 33554432⟩, ⟨256, 33554432, 67108864⟩] [(0, false), (1, false), (2, false), (3, false), (4, false), (5, false), (6, false), (7, false), (8, true), (9, false)] rfl (by kernel_rfl) (by kernel_rfl) (fun _ _ d _ _ h => by cases d <;> exact h) (HS.out _ hKc) ?_
      simp only [rowsOf, rowAt, gslot, List.map_cons, List.map_nil, List.getElem?_toArray, List.getElem?_cons_zero, List.getElem?_cons_succ]
      repeat (first
        | (refine seq_take (v := ?_) (a' := ?_) (by rfl) ?_ ?_ ?_
           rotate_left 2
           · (intro w hSw; obtain ⟨-, hSw⟩ := hSw; go_split_ands; go_simp; with_reducible rfl)
           · (simp only [Act.put, List.setIfInBounds_toArray, List.set_cons_zero, List.set_cons_succ]; with_reducible rfl))
        | (refine seq_callv (f := 14) (args := ?_) (v := ?_) (a' := ?_) (by rfl) (by rfl) (by rfl) Try.call14 ?_ ?_ ?_ ?_
           rotate_left 3
           · (go_simp; with_reducible rfl)
           · ((with_reducible refine (same_is Aj ys.length cj Ak ys.length ck ys ys _ _ _ (HY.out.keep hKc hBr.out).lies (HY2.out.keep hKc hBr2.out).lies rfl).mono ?_)
              rintro e w' ⟨rfl, rfl⟩
              refine ⟨?_, HS.out _ hKc⟩
              with_reducible rfl)
           · (simp only [Act.put, List.setIfInBounds_toArray, List.set_cons_zero, List.set_cons_succ]; with_reducible rfl)
           clear hKc
           intro w2 hw2
           have hKc := hw2.1
           clear hw2)
        | (refine seq_skip (a' := ?_) (HS.out _ hKc) (by rfl) ?_ ?_
           rotate_left
           · (simp only [Act.put, List.setIfInBounds_toArray, List.set_cons_zero, List.set_cons_succ]; with_reducible rfl)))
      refine seq_nil ?_
      go_wp2_with fail
      go_roundw
      case rel => exact ⟨j + 1, hlt, by go_num, hk.trans hKc⟩
      case measure => simp [intOf]; omega
    · obtain rfl : j = n := by omega
      go_wp2
      go_ret
      exact ⟨rfl, hk⟩

section
variable {H : Type} {w : World} {held : Bool}
/-- Rows of bytes that came in. -/
def Arg2 (w : World) (a : Option Addr) (len : Nat) (yss : List (List Int)) : Prop := Brs w w.heap.size a len yss ∧ ∀ ys ∈ yss, Byt ys ∧ ys.length ≤ maxLen
theorem open_bytes {enc : TypeId × Value → H} {fuel : Nat} {v : Value} {x : DataW H × List MemPlace} (h : DataW.trod enc Try.prog w 0 (fun _ => true) held fuel 22 [v] = some x) :
    ∃ (a : Option Addr) (cap : Nat) (z : List Int), v = .slice a z.length cap ∧ By w w.heap.size a z.length cap z ∧ Byt z ∧ z.length ≤ maxLen := by
  rcases open_ints Try.underlying22 Try.underlying5 (by kernel_rfl) h with ⟨hcs, _⟩ | ⟨a, l, c, zs, hcs, _, hl, hm, hz, _, hcell, hwz⟩
  · have e : v = .slice none 0 0 := by simpa using hcs
    exact ⟨none, 0, [], e, ⟨(arr_none .u8 w none).2.1, Nat.le_refl _, fun _ => rfl⟩, fun x hx => by simp at hx, Nat.zero_le _⟩
  · have e : v = .slice (some a) l c := by simpa using hcs
    have ha := arr_some (k := .u8) hl hm (by simpa using hz) hcell hwz
    have hlen : (zs.take l).length = l := by have := ha.2.1.1; rwa [vals_length] at this
    refine ⟨some a, c, zs.take l, by rw [hlen]; exact e, ⟨by rw [hlen]; exact ha.2.1, by rw [hlen]; exact hl, fun h => by cases h⟩, fun x hx => by have := bounds_u8 (ha.2.2 x hx); omega, by rw [hlen]; exact ha.1⟩

theorem open_arg29 (enc : TypeId × Value → H) {a : Option Addr} {len cap : Nat} {d : DataW H} {p : List MemPlace} (h : DataW.Trod enc Try.prog w 0 (fun _ => true) held 29 (.slice a len cap) d p) : ∃ yss, Arg2 w a len yss := by
  obtain ⟨fuel, hf⟩ := h
  have ce : Try.prog.cellsOf 22 = 1 := by kernel_rfl
  rcases open_slice Try.underlying29 hf with ⟨hcs, _⟩ | ⟨ad, l, c, m, n, D, Pl, hcs, _, hl, hm, hmm, _, hx⟩
  · simp [Value.cells] at hcs
    obtain ⟨rfl, rfl, rfl⟩ := hcs
    exact ⟨[], ⟨rfl, fun i o h => by cases h⟩, fun ys h => by cases h⟩
  · simp [Value.cells] at hcs
    obtain ⟨rfl, rfl, rfl⟩ := hcs
    have hlm : len ≤ m := by rw [hmm]; simpa using hl
    have hsp : 0 < m → ad.spot = none := by
      intro h0
      obtain ⟨cs', h1, _⟩ := hx 0 h0
      rw [ce] at h1
      obtain ⟨_, hlen, hcell⟩ := World.cells?_some h1
      match cs', hlen with
      | v0 :: rest, _ =>
        have e0 := hcell 0 (by omega)
        simp only [add_add] at e0
        have := World.cell?_spot e0
        simpa [Addr.add] using this
    have each : ∀ i, i < len → ∃ ys : List Int, (∃ b off Aj cj, some ad = some ⟨b, off, none⟩ ∧ b < w.heap.size ∧ w.cell? ⟨b, off + i, none⟩ = some (.slice Aj ys.length cj) ∧ By w w.heap.size Aj ys.length cj ys) ∧ Byt ys ∧ ys.length ≤ maxLen := by
      intro i hi
      obtain ⟨cs', h1, h2⟩ := hx i (by omega)
      rw [ce] at h1
      obtain ⟨_, hlen, hcell⟩ := World.cells?_some h1
      match cs', hlen with
      | [v0], _ =>
        obtain ⟨ba, bc, bz, q3, hby, hbt, hbl⟩ := open_bytes h2
        subst q3
        have e0 := hcell 0 (by omega)
        simp only [add_add] at e0
        obtain ⟨b, off, spot⟩ := ad
        have hspot : spot = none := hsp (by omega)
        subst hspot
        have ea : ∀ q, (⟨b, off, none⟩ : Addr).add q = ⟨b, off + q, none⟩ := fun q => by unfold Addr.add; split <;> simp_all
        simp only [ea] at e0
        exact ⟨bz, ⟨b, off, ba, bc, rfl, World.block_lt_of_cell? w _ e0, by simpa using e0, hby⟩, hbt, hbl⟩
    obtain ⟨q, hq⟩ := choose_lt each
    refine ⟨(List.range len).map q, ⟨by simp, fun i ys hi => ?_⟩, fun ys hy => ?_⟩
    · obtain ⟨hlt, rfl⟩ := List.getElem?_eq_some_iff.1 hi
      rw [List.getElem_map, List.getElem_range]
      exact (hq i (by simpa using hlt)).1
    · obtain ⟨i, hi, rfl⟩ := List.mem_map.1 hy
      exact (hq i (by simpa using hi)).2
end
end Go.Proofs.Ytjhakgnjodocpaa
