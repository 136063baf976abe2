/- Steps that came in, for arena; the document's nodes that are compared. -/
import Derived.Test.YtdnhgfbchddababArnRef
import Derived.Test.YtdnhgfbchddababArnLawC
namespace Go.Proofs.Ytdnhgfbchddabab
open Go.RowKit Go.Joins Go.Deep Go.ChangeShapes Go.WideShapes

theorem rnFields : ∃ f0 f1 f2 f3 : Field, Try.prog.underlying 44 = some (.struct #[f0, f1, f2, f3]) ∧ f0.offset = 0 ∧ f1.offset = 1 ∧ f2.offset = 2 ∧ f3.offset = 6 ∧ f0.type = 21 ∧ f1.type = 21 ∧ f2.type = 32 ∧ f3.type = 4 ∧ (f0.name != "_") = true ∧ (f1.name != "_") = true ∧ (f2.name != "_") = true ∧ (f3.name != "_") = true :=
  ⟨_, _, _, _, Try.underlying44, by kernel_rfl, by kernel_rfl, by kernel_rfl, by kernel_rfl, by kernel_rfl, by kernel_rfl, by kernel_rfl, by kernel_rfl, by kernel_rfl, by kernel_rfl, by kernel_rfl, by kernel_rfl⟩
theorem equal_rn (z : Nd) (w : World) : (Op.equalIn 10000 44 (.agg #[.int .i32 z.l, .int .i32 z.r, .int .i64 z.c, .int .i64 z.s, .int .i64 z.mn, .int .i64 z.mx, .bool z.k]) (.agg #[.int .i32 z.l, .int .i32 z.r, .int .i64 z.c, .int .i64 z.s, .int .i64 z.mn, .int .i64 z.mx, .bool z.k])).run Try.prog w = .ok true w := by
  have h := run_equalIn_struct (P := Try.prog) w 9999 44 #[.int .i32 z.l, .int .i32 z.r, .int .i64 z.c, .int .i64 z.s, .int .i64 z.mn, .int .i64 z.mx, .bool z.k] #[.int .i32 z.l, .int .i32 z.r, .int .i64 z.c, .int .i64 z.s, .int .i64 z.mn, .int .i64 z.mx, .bool z.k] (by kernel_rfl) (by kernel_rfl)
  rw [h]
  obtain ⟨f0, f1, f2, f3, e, o0, o1, o2, o3, t0, t1, t2, t3, n0, n1, n2, n3⟩ := rnFields
  have e2 : (Try.prog.fieldsOf 44).toList = [f0, f1, f2, f3] := by simp [Program.fieldsOf, e]
  rw [e2]
  simp [Op.eqFields, o0, o1, o2, o3, t0, t1, t2, t3, bne_iff_ne.1 n0, bne_iff_ne.1 n1, bne_iff_ne.1 n2, bne_iff_ne.1 n3, go_sem, equal_ag]
structure OpV where
  kind : Int
  i : Int
  n : Nd
def OpC (w : World) (b off : Nat) (o : OpV) : Prop := w.cell? ⟨b, off, none⟩ = some (.int .i64 o.kind) ∧ w.cell? ⟨b, off + 1, none⟩ = some (.int .i32 o.i) ∧ w.cell? ⟨b, off + 2, none⟩ = some (.int .i32 o.n.l) ∧ w.cell? ⟨b, off + 3, none⟩ = some (.int .i32 o.n.r) ∧ w.cell? ⟨b, off + 4, none⟩ = some (.int .i64 o.n.c) ∧ w.cell? ⟨b, off + 5, none⟩ = some (.int .i64 o.n.s) ∧ w.cell? ⟨b, off + 6, none⟩ = some (.int .i64 o.n.mn) ∧ w.cell? ⟨b, off + 7, none⟩ = some (.int .i64 o.n.mx) ∧ w.cell? ⟨b, off + 8, none⟩ = some (.bool o.n.k)
theorem OpC.block {w w' : World} {b off : Nat} {o : OpV} (h : OpC w b off o) (hb : w'.heap[b]? = w.heap[b]?) : OpC w' b off o := by
  have e : ∀ q, w'.cell? ⟨b, q, none⟩ = w.cell? ⟨b, q, none⟩ := fun q => World.cell?_of_block (a := ⟨b, q, none⟩) hb
  unfold OpC at *
  rw [e, e, e, e, e, e, e, e, e]
  exact h
/-- A slice of steps that came in. -/
def OpArg (w : World) (a : Option Addr) (len : Nat) (os : List OpV) : Prop :=
  len ≤ maxLen ∧ os.length = len ∧ ∀ (i : Nat) (o : OpV), os[i]? = some o → (-2147483648 ≤ o.i ∧ o.i ≤ 2147483647) ∧ ∃ b off, a = some ⟨b, off, none⟩ ∧ b < w.heap.size ∧ OpC w b (off + i * 9) o
theorem opFields : ∃ f0 f1 f2 : Field, Try.prog.underlying 36 = some (.struct #[f0, f1, f2]) ∧ f0.offset = 0 ∧ f1.offset = 1 ∧ f2.offset = 2 ∧ f0.type = 3 ∧ f1.type = 21 ∧ f2.type = 34 :=
  ⟨_, _, _, Try.underlying36, by kernel_rfl, by kernel_rfl, by kernel_rfl, by kernel_rfl, by kernel_rfl, by kernel_rfl⟩
section
variable {H : Type} {w : World} {held : Bool}
theorem op_of {enc : TypeId × Value → H} {fuel : Nat} {cs : List Value} {x : DataW H × List MemPlace} (h : DataW.trod enc Try.prog w 0 (fun _ => true) held fuel 36 cs = some x) : ∃ o : OpV, cs = [.int .i64 o.kind, .int .i32 o.i] ++ ndc o.n ∧ (-2147483648 ≤ o.i ∧ o.i ≤ 2147483647) := by
  obtain ⟨f0, f1, f2, e, o0, o1, o2, t0, t1, t2⟩ := opFields
  have c0 : Try.prog.cellsOf 3 = 1 := by kernel_rfl
  have c1 : Try.prog.cellsOf 21 = 1 := by kernel_rfl
  have c2 : Try.prog.cellsOf 34 = 7 := by kernel_rfl
  have c5 : Try.prog.cellsOf 36 = 9 := by kernel_rfl
  obtain ⟨xs, k, _, _, hl, hxl, hfl⟩ := DataW.trod_struct e h
  rw [c5] at hl
  match xs, hxl, cs, hl with
  | [y0, y1, y2], _, [v0, v1, v2, v3, v4, v5, v6, v7, v8], _ =>
    have q0 := hfl 0 f0 rfl
    have q1 := hfl 1 f1 rfl
    have q2 := hfl 2 f2 rfl
    simp [o0, o1, o2, t0, t1, t2, c0, c1, c2] at q0 q1 q2
    obtain ⟨n0, r0, _, _⟩ := DataW.trod_int Try.underlying3 q0
    obtain ⟨n1, r1, _, w1⟩ := DataW.trod_int Try.underlying21 q1
    obtain ⟨z, hz⟩ := node_of q2
    simp only [List.cons.injEq, and_true] at r0 r1
    subst r0 r1
    exact ⟨⟨n0, n1, z⟩, by rw [← hz]; rfl, bounds_i32 w1⟩
set_option maxRecDepth 100000 in
theorem open_arg22 (enc : TypeId × Value → H) {a : Option Addr} {len cap : Nat} {d : DataW H} {p : List MemPlace} (h : DataW.Trod enc Try.prog w 0 (fun _ => true) held 22 (.slice a len cap) d p) : ∃ os, OpArg w a len os := by
  obtain ⟨fuel, hf⟩ := h
  have ce : Try.prog.cellsOf 36 = 9 := by kernel_rfl
  rcases open_slice Try.underlying22 hf with ⟨hcs, _⟩ | ⟨ad, l, c, m, n, D, Pl, hcs, _, hl, hm, hmm, _, hx⟩
  · simp [Value.cells] at hcs
    obtain ⟨rfl, rfl, rfl⟩ := hcs
    exact ⟨[], Nat.zero_le _, rfl, fun i z h => by simp at h⟩
  · simp [Value.cells] at hcs
    obtain ⟨rfl, rfl, rfl⟩ := hcs
    have hlm : len ≤ m := by rw [hmm]; simpa using hl
    have hsp : 0 < m → ad.spot = none := by
      intro h0
      obtain ⟨cs', h1, _⟩ := hx 0 h0
      rw [ce] at h1
      obtain ⟨_, hlen, hcell⟩ := World.cells?_some h1
      have e0 := hcell 0 (by omega)
      have h0' : 0 < cs'.length := by omega
      rw [List.getElem?_eq_getElem h0'] at e0
      simp only [add_add] at e0
      have := World.cell?_spot e0
      simpa [Addr.add] using this
    have each : ∀ i, i < len → ∃ o : OpV, (-2147483648 ≤ o.i ∧ o.i ≤ 2147483647) ∧ ∃ b off, some ad = some ⟨b, off, none⟩ ∧ b < w.heap.size ∧ OpC w b (off + i * 9) o := by
      intro i hi
      obtain ⟨cs', h1, h2⟩ := hx i (by omega)
      rw [ce] at h1
      obtain ⟨_, hlen, hcell⟩ := World.cells?_some h1
      obtain ⟨o, hz, hb⟩ := op_of h2
      subst hz
      have e : ∀ q, q < 9 → w.cell? (ad.add (i * 9 + q)) = ([.int .i64 o.kind, .int .i32 o.i] ++ ndc o.n)[q]? := fun q hq => by
        have := hcell q hq
        rwa [add_add] at this
      have hsp := hsp (by omega)
      obtain ⟨b, off, spot⟩ := ad
      subst hsp
      simp only [addr_add] at e
      have e' : ∀ q, q < 9 → w.cell? ⟨b, off + i * 9 + q, none⟩ = ([.int .i64 o.kind, .int .i32 o.i] ++ ndc o.n)[q]? := fun q hq => by rw [Nat.add_assoc]; exact e q hq
      have hbl := World.block_lt_of_cell? w _ (e' 0 (by omega))
      exact ⟨o, hb, b, off, rfl, hbl, e' 0 (by omega), e' 1 (by omega), e' 2 (by omega), e' 3 (by omega), e' 4 (by omega), e' 5 (by omega), e' 6 (by omega), e' 7 (by omega), e' 8 (by omega)⟩
    haveI : Inhabited OpV := ⟨⟨0, 0, Nd.zero⟩⟩
    obtain ⟨q, hq⟩ := choose_lt each
    refine ⟨(List.range len).map q, by omega, by simp, fun i z hi => ?_⟩
    obtain ⟨hlt, rfl⟩ := List.getElem?_eq_some_iff.1 hi
    rw [List.getElem_map, List.getElem_range]
    exact hq i (by simpa using hlt)
end
end Go.Proofs.Ytdnhgfbchddabab
