/- A slice of labels, and a label, that came in: what a walk is told of them. -/
import Derived.Test.YtknjekakncjbgabDoorLatAlive
import Derived.Deep.Slices
import Derived.ChangeSame
import Derived.OpenShut
import Derived.Lib.SmallJoins
namespace Go.Proofs.YtknjekakncjbgabDoor
open Go.RowKit Go.Joins Go.Deep Go.ChangeShapes Go.WideShapes

/-- The slice at a of length len holds the labels ls. -/
def LbArg (w : World) (a : Option Addr) (len : Nat) (ls : List Lb) : Prop := len ≤ maxLen ∧ LbS w w.heap.size a len ls ∧ ∀ y ∈ ls, y.ok

theorem open_arg25 {H : Type} {w : World} {held : Bool} {r : Reach} {b0 : Nat} (enc : TypeId × Value → H) {v : Value} {d : DataW H} {p : List MemPlace}
    (hv : Value.okWide Tryd.prog w r b0 25 v) (h : DataW.Trod enc Tryd.prog w 0 (fun _ => true) held 25 v d p) : ∃ z : Lb, v = .agg #[.int .u8 z.lv, .int .u16 z.ct] ∧ z.ok := by
  obtain ⟨f0, f1, e, o0, o1, t0, t1, n0, n1⟩ := lbFields
  have hone : oneCellFields Tryd.prog #[f0, f1] = true := by
    have : (Tryd.prog.underlying 25).map (fun d => match d with | .struct fs => oneCellFields Tryd.prog fs | _ => false) = some true := by kernel_rfl
    rw [e] at this
    exact Option.some.inj this
  obtain ⟨v0, v1, y0, y1, n, rfl, rfl, rfl, h0, h1⟩ := open_agg2 e hone (by kernel_rfl) hv h
  rw [t0] at h0
  rw [t1] at h1
  obtain ⟨x0, q0, _, wf0⟩ := DataW.trod_int Tryd.underlying5 h0
  obtain ⟨x1, q1, _, wf1⟩ := DataW.trod_int Tryd.underlying23 h1
  simp only [List.cons.injEq, and_true] at q0 q1
  subst q0 q1
  refine ⟨⟨x0, x1⟩, rfl, ?_⟩
  have b0 := bounds_u8 wf0
  have b1 := bounds_u16 wf1
  exact ⟨⟨by dsimp only; omega, by dsimp only; omega⟩, by dsimp only; omega, by dsimp only; omega⟩

theorem open_arg22 {H : Type} {w : World} {held : Bool} (enc : TypeId × Value → H) {a : Option Addr} {len cap : Nat} {d : DataW H} {p : List MemPlace} (h : DataW.Trod enc Tryd.prog w 0 (fun _ => true) held 22 (.slice a len cap) d p) : ∃ ls, LbArg w a len ls := by
  obtain ⟨fuel, hf⟩ := h
  obtain ⟨f0, f1, he, o0, o1, t0, t1, _, _⟩ := lbFields
  have k0 : Tryd.prog.cellsOf f0.type = 1 := by rw [t0]; kernel_rfl
  have k1 : Tryd.prog.cellsOf f1.type = 1 := by rw [t1]; kernel_rfl
  have ce := lbCells
  rcases open_slice Tryd.underlying22 hf with ⟨hcs, _⟩ | ⟨ad, l, c, m, n, D, Pl, hcs, _, hl, hm, hmm, _, hx⟩
  · simp [Value.cells] at hcs
    obtain ⟨rfl, rfl, rfl⟩ := hcs
    exact ⟨[], Nat.zero_le _, Prs.nil _ _ _, fun _ h => by cases h⟩
  · simp [Value.cells] at hcs
    obtain ⟨rfl, rfl, rfl⟩ := hcs
    have hlm : len ≤ m := by rw [hmm]; simpa using hl
    have hsp : 0 < m → ad.spot = none := by
      intro h0
      obtain ⟨cs', h1, _⟩ := hx 0 h0
      rw [ce] at h1
      obtain ⟨_, hlen, hcell⟩ := World.cells?_some h1
      match cs', hlen with
      | v0 :: rest, _ =>
        have e0 := hcell 0 (by omega)
        simp only [add_add] at e0
        have := World.cell?_spot e0
        simpa [Addr.add] using this
    have each : ∀ i, i < len → ∃ o : Lb, o.ok ∧ ∃ b off, some ad = some ⟨b, off, none⟩ ∧ b < w.heap.size ∧ w.cell? ⟨b, off + i * 2, none⟩ = some (.int .u8 o.lv) ∧ w.cell? ⟨b, off + i * 2 + 1, none⟩ = some (.int .u16 o.ct) := by
      intro i hi
      obtain ⟨cs', h1, h2⟩ := hx i (by omega)
      rw [ce] at h1
      obtain ⟨_, hlen, hcell⟩ := World.cells?_some h1
      obtain ⟨xs, k, hk, hxy, _, hxl, hfl⟩ := DataW.trod_struct he h2
      match xs, hxl, cs', hlen with
      | [y0, y1], _, [v0, v1], _ =>
        have g0 := hfl 0 f0 rfl
        have g1 := hfl 1 f1 rfl
        simp [o0, o1, k0, k1] at g0 g1
        rw [t0] at g0
        rw [t1] at g1
        obtain ⟨n0, q0, _, wf0⟩ := DataW.trod_int Tryd.underlying5 g0
        obtain ⟨n1, q1, _, wf1⟩ := DataW.trod_int Tryd.underlying23 g1
        simp only [List.cons.injEq, and_true] at q0 q1
        subst q0 q1
        have e0 := hcell 0 (by omega)
        have e1 := hcell 1 (by omega)
        simp only [add_add] at e0 e1
        obtain ⟨b, off, spot⟩ := ad
        have hspot : spot = none := hsp (by omega)
        subst hspot
        simp only [addr_add] at e0 e1
        have b0 := bounds_u8 wf0
        have b1 := bounds_u16 wf1
        refine ⟨⟨n0, n1⟩, ⟨⟨by dsimp only; omega, by dsimp only; omega⟩, by dsimp only; omega, by dsimp only; omega⟩, b, off, rfl, World.block_lt_of_cell? w _ e0, ?_, ?_⟩
        · simpa using e0
        · simpa [Nat.add_assoc] using e1
    haveI : Inhabited Lb := ⟨⟨0, 0⟩⟩
    obtain ⟨q, hq⟩ := choose_lt each
    refine ⟨(List.range len).map q, by omega, ⟨by simp, fun i o hi => ?_⟩, fun y hy => ?_⟩
    · obtain ⟨hlt, rfl⟩ := List.getElem?_eq_some_iff.1 hi
      rw [List.getElem_map, List.getElem_range]
      exact (hq i (by simpa using hlt)).2
    · obtain ⟨i, hi, rfl⟩ := List.mem_map.1 hy
      exact (hq i (by simpa using hi)).1
end Go.Proofs.YtknjekakncjbgabDoor
