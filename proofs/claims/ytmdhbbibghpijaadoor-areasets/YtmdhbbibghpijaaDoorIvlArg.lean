/- A slice of spans that came in: what a walk is told of it. -/
import Derived.Test.YtmdhbbibghpijaaDoorIvlBag
import Derived.Deep.Slices
import Derived.ChangeSame
import Derived.OpenShut
import Derived.Lib.SmallJoins
namespace Go.Proofs.YtmdhbbibghpijaaDoor
open Go.RowKit Go.Joins Go.Deep Go.ChangeShapes Go.WideShapes

/-- The slice at a of length len holds the spans zs. -/
def SpArg (w : World) (a : Option Addr) (len cap : Nat) (zs : List Sp) : Prop := len ≤ maxLen ∧ Arg w a len cap zs
set_option maxRecDepth 100000 in
theorem bounds_u32 {x : Int} (h : (Lit.int .u32 x).wf = true) : 0 ≤ x ∧ x ≤ 4294967295 := by
  have e1 : IntKind.u32.min = 0 := by decide
  have e2 : IntKind.u32.max = 4294967295 := by decide
  simp [Lit.wf, e1, e2] at h
  omega
theorem spCells : Tryd.prog.cellsOf 37 = 2 := by kernel_rfl

set_option maxRecDepth 100000 in
theorem open_arg32 {H : Type} {w : World} {held : Bool} (enc : TypeId × Value → H) {a : Option Addr} {len cap : Nat} {d : DataW H} {p : List MemPlace} (h : DataW.Trod enc Tryd.prog w 0 (fun _ => true) held 32 (.slice a len cap) d p) : ∃ zs, SpArg w a len cap zs := by
  obtain ⟨fuel, hf⟩ := h
  obtain ⟨f0, f1, he, o0, o1, t0, t1, _, _⟩ := spFields
  have k0 : Tryd.prog.cellsOf f0.type = 1 := by rw [t0]; kernel_rfl
  have k1 : Tryd.prog.cellsOf f1.type = 1 := by rw [t1]; kernel_rfl
  have ce := spCells
  rcases open_slice Tryd.underlying32 hf with ⟨hcs, _⟩ | ⟨ad, l, c, m, n, D, Pl, hcs, _, hl, hm, hmm, _, hx⟩
  · simp [Value.cells] at hcs
    obtain ⟨rfl, rfl, rfl⟩ := hcs
    exact ⟨[], Nat.zero_le _, arg_nil w⟩
  · simp [Value.cells] at hcs
    obtain ⟨rfl, rfl, rfl⟩ := hcs
    have hlm : len ≤ m := by rw [hmm]; simpa using hl
    have hsp : 0 < m → ad.spot = none := by
      intro h0
      obtain ⟨cs', h1, _⟩ := hx 0 h0
      rw [ce] at h1
      obtain ⟨_, hlen, hcell⟩ := World.cells?_some h1
      match cs', hlen with
      | v0 :: rest, _ =>
        have e0 := hcell 0 (by omega)
        simp only [add_add] at e0
        have := World.cell?_spot e0
        simpa [Addr.add] using this
    have each : ∀ i, i < len → ∃ o : Sp, o.ok ∧ ∃ b off, some ad = some ⟨b, off, none⟩ ∧ b < w.heap.size ∧ w.cell? ⟨b, off + i * 2, none⟩ = some (.int .u32 o.lo) ∧ w.cell? ⟨b, off + i * 2 + 1, none⟩ = some (.int .u32 o.hi) := by
      intro i hi
      obtain ⟨cs', h1, h2⟩ := hx i (by omega)
      rw [ce] at h1
      obtain ⟨_, hlen, hcell⟩ := World.cells?_some h1
      obtain ⟨xs, k, hk, hxy, _, hxl, hfl⟩ := DataW.trod_struct he h2
      match xs, hxl, cs', hlen with
      | [y0, y1], _, [v0, v1], _ =>
        have g0 := hfl 0 f0 rfl
        have g1 := hfl 1 f1 rfl
        simp [o0, o1, k0, k1] at g0 g1
        rw [t0] at g0
        rw [t1] at g1
        obtain ⟨n0, q0, _, wf0⟩ := DataW.trod_int Tryd.underlying23 g0
        obtain ⟨n1, q1, _, wf1⟩ := DataW.trod_int Tryd.underlying23 g1
        simp only [List.cons.injEq, and_true] at q0 q1
        subst q0 q1
        have e0 := hcell 0 (by omega)
        have e1 := hcell 1 (by omega)
        simp only [add_add] at e0 e1
        obtain ⟨b, off, spot⟩ := ad
        have hspot : spot = none := hsp (by omega)
        subst hspot
        simp only [addr_add] at e0 e1
        have b0 := bounds_u32 wf0
        have b1 := bounds_u32 wf1
        refine ⟨⟨n0, n1⟩, ⟨⟨by dsimp only; omega, by dsimp only; omega⟩, by dsimp only; omega, by dsimp only; omega⟩, b, off, rfl, World.block_lt_of_cell? w _ e0, ?_, ?_⟩
        · simpa using e0
        · simpa [Nat.add_assoc] using e1
    haveI : Inhabited Sp := ⟨⟨0, 0⟩⟩
    obtain ⟨q, hq⟩ := choose_lt each
    refine ⟨(List.range len).map q, by omega, ⟨by simp, fun i o hi => ?_⟩, hl, (fun h => by cases h), fun y hy => ?_⟩
    · obtain ⟨hlt, rfl⟩ := List.getElem?_eq_some_iff.1 hi
      rw [List.getElem_map, List.getElem_range]
      exact (hq i (by simpa using hlt)).2
    · obtain ⟨i, hi, rfl⟩ := List.mem_map.1 hy
      exact (hq i (by simpa using hi)).1
end Go.Proofs.YtmdhbbibghpijaaDoor
