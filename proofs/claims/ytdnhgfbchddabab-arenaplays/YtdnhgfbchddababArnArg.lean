/- Nodes that came in; rows of nodes, wherever they lie; nodes that are compared. -/
import Derived.Test.YtdnhgfbchddababArnAlive
import Derived.Deep.Slices
import Derived.ChangeSame
import Derived.OpenShut
import Derived.Lib.SmallJoins
namespace Go.Proofs.Ytdnhgfbchddabab
open Go.RowKit Go.Joins Go.Deep Go.ChangeShapes Go.WideShapes

theorem agFields : ∃ f0 f1 f2 f3 : Field, Try.prog.underlying 32 = some (.struct #[f0, f1, f2, f3]) ∧ f0.offset = 0 ∧ f1.offset = 1 ∧ f2.offset = 2 ∧ f3.offset = 3 ∧ f0.type = 3 ∧ f1.type = 2 ∧ f2.type = 2 ∧ f3.type = 2 ∧ (f0.name != "_") = true ∧ (f1.name != "_") = true ∧ (f2.name != "_") = true ∧ (f3.name != "_") = true :=
  ⟨_, _, _, _, Try.underlying32, by kernel_rfl, by kernel_rfl, by kernel_rfl, by kernel_rfl, by kernel_rfl, by kernel_rfl, by kernel_rfl, by kernel_rfl, by kernel_rfl, by kernel_rfl, by kernel_rfl, by kernel_rfl⟩
theorem equal_ag (c s mn mx : Int) (w : World) : (Op.equalIn 9999 32 (.agg #[.int .i64 c, .int .i64 s, .int .i64 mn, .int .i64 mx]) (.agg #[.int .i64 c, .int .i64 s, .int .i64 mn, .int .i64 mx])).run Try.prog w = .ok true w := by
  have h := run_equalIn_struct (P := Try.prog) w 9998 32 #[.int .i64 c, .int .i64 s, .int .i64 mn, .int .i64 mx] #[.int .i64 c, .int .i64 s, .int .i64 mn, .int .i64 mx] (by kernel_rfl) (by kernel_rfl)
  rw [h]
  obtain ⟨f0, f1, f2, f3, e, o0, o1, o2, o3, t0, t1, t2, t3, n0, n1, n2, n3⟩ := agFields
  have e2 : (Try.prog.fieldsOf 32).toList = [f0, f1, f2, f3] := by simp [Program.fieldsOf, e]
  rw [e2]
  simp [Op.eqFields, o0, o1, o2, o3, t0, t1, t2, t3, bne_iff_ne.1 n0, bne_iff_ne.1 n1, bne_iff_ne.1 n2, bne_iff_ne.1 n3, go_sem]
theorem ndFields : ∃ f0 f1 f2 f3 : Field, Try.prog.underlying 34 = some (.struct #[f0, f1, f2, f3]) ∧ f0.offset = 0 ∧ f1.offset = 1 ∧ f2.offset = 2 ∧ f3.offset = 6 ∧ f0.type = 21 ∧ f1.type = 21 ∧ f2.type = 32 ∧ f3.type = 4 ∧ (f0.name != "_") = true ∧ (f1.name != "_") = true ∧ (f2.name != "_") = true ∧ (f3.name != "_") = true :=
  ⟨_, _, _, _, Try.underlying34, by kernel_rfl, by kernel_rfl, by kernel_rfl, by kernel_rfl, by kernel_rfl, by kernel_rfl, by kernel_rfl, by kernel_rfl, by kernel_rfl, by kernel_rfl, by kernel_rfl, by kernel_rfl⟩
theorem equal_nd (z : Nd) (w : World) : (Op.equalIn 10000 34 (.agg #[.int .i32 z.l, .int .i32 z.r, .int .i64 z.c, .int .i64 z.s, .int .i64 z.mn, .int .i64 z.mx, .bool z.k]) (.agg #[.int .i32 z.l, .int .i32 z.r, .int .i64 z.c, .int .i64 z.s, .int .i64 z.mn, .int .i64 z.mx, .bool z.k])).run Try.prog w = .ok true w := by
  have h := run_equalIn_struct (P := Try.prog) w 9999 34 #[.int .i32 z.l, .int .i32 z.r, .int .i64 z.c, .int .i64 z.s, .int .i64 z.mn, .int .i64 z.mx, .bool z.k] #[.int .i32 z.l, .int .i32 z.r, .int .i64 z.c, .int .i64 z.s, .int .i64 z.mn, .int .i64 z.mx, .bool z.k] (by kernel_rfl) (by kernel_rfl)
  rw [h]
  obtain ⟨f0, f1, f2, f3, e, o0, o1, o2, o3, t0, t1, t2, t3, n0, n1, n2, n3⟩ := ndFields
  have e2 : (Try.prog.fieldsOf 34).toList = [f0, f1, f2, f3] := by simp [Program.fieldsOf, e]
  rw [e2]
  simp [Op.eqFields, o0, o1, o2, o3, t0, t1, t2, t3, bne_iff_ne.1 n0, bne_iff_ne.1 n1, bne_iff_ne.1 n2, bne_iff_ne.1 n3, go_sem, equal_ag]

section
variable {H : Type} {w : World} {held : Bool}
/-- A node's seven cells, from how they are read. -/
theorem node_of {enc : TypeId × Value → H} {fuel : Nat} {cs : List Value} {x : DataW H × List MemPlace} (h : DataW.trod enc Try.prog w 0 (fun _ => true) held fuel 34 cs = some x) : ∃ z : Nd, cs = ndc z := by
  obtain ⟨f0, f1, f2, f3, e, o0, o1, o2, o3, t0, t1, t2, t3, -⟩ := ndFields
  obtain ⟨g0, g1, g2, g3, e', p0, p1, p2, p3, u0, u1, u2, u3, -⟩ := agFields
  have c0 : Try.prog.cellsOf 21 = 1 := by kernel_rfl
  have c1 : Try.prog.cellsOf 3 = 1 := by kernel_rfl
  have c2 : Try.prog.cellsOf 2 = 1 := by kernel_rfl
  have c3 : Try.prog.cellsOf 4 = 1 := by kernel_rfl
  have c4 : Try.prog.cellsOf 32 = 4 := by kernel_rfl
  have c5 : Try.prog.cellsOf 34 = 7 := by kernel_rfl
  obtain ⟨xs, k, _, _, hl, hxl, hfl⟩ := DataW.trod_struct e h
  rw [c5] at hl
  match xs, hxl, cs, hl with
  | [y0, y1, y2, y3], _, [v0, v1, v2, v3, v4, v5, v6], _ =>
    have q0 := hfl 0 f0 rfl
    have q1 := hfl 1 f1 rfl
    have q2 := hfl 2 f2 rfl
    have q3 := hfl 3 f3 rfl
    simp [o0, o1, o2, o3, t0, t1, t2, t3, c0, c3, c4] at q0 q1 q2 q3
    obtain ⟨n0, r0, _, _⟩ := DataW.trod_int Try.underlying21 q0
    obtain ⟨n1, r1, _, _⟩ := DataW.trod_int Try.underlying21 q1
    obtain ⟨n3, r3, _⟩ := DataW.trod_bool Try.underlying4 q3
    obtain ⟨xs', k', _, _, hl', hxl', hfl'⟩ := DataW.trod_struct e' q2
    match xs', hxl' with
    | [x0, x1, x2, x3], _ =>
      have s0 := hfl' 0 g0 rfl
      have s1 := hfl' 1 g1 rfl
      have s2 := hfl' 2 g2 rfl
      have s3 := hfl' 3 g3 rfl
      simp [p0, p1, p2, p3, u0, u1, u2, u3, c1, c2] at s0 s1 s2 s3
      obtain ⟨m0, z0, _, _⟩ := DataW.trod_int Try.underlying3 s0
      obtain ⟨m1, z1, _, _⟩ := DataW.trod_int Try.underlying2 s1
      obtain ⟨m2, z2, _, _⟩ := DataW.trod_int Try.underlying2 s2
      obtain ⟨m3, z3, _, _⟩ := DataW.trod_int Try.underlying2 s3
      simp only [List.cons.injEq, and_true] at r0 r1 r3 z0 z1 z2 z3
      subst r0 r1 r3 z0 z1 z2 z3
      exact ⟨⟨n0, n1, m0, m1, m2, m3, n3⟩, rfl⟩
theorem open_arg34 {r : Reach} {b0 : Nat} (enc : TypeId × Value → H) {v : Value} {d : DataW H} {p : List MemPlace}
    (hv : Value.okWide Try.prog w r b0 34 v) (h : DataW.Trod enc Try.prog w 0 (fun _ => true) held 34 v d p) : ∃ z : Nd, v = .agg #[.int .i32 z.l, .int .i32 z.r, .int .i64 z.c, .int .i64 z.s, .int .i64 z.mn, .int .i64 z.mx, .bool z.k] ∧ True := by
  obtain ⟨f0, f1, f2, f3, e, -⟩ := ndFields
  obtain ⟨cs, rfl, hsz⟩ := okWide_struct e hv
  obtain ⟨fuel, hf⟩ := h
  obtain ⟨z, hz⟩ := node_of hf
  refine ⟨z, ?_, trivial⟩
  obtain ⟨l⟩ := cs
  simp [Value.cells, ndc] at hz
  rw [hz]
end

/-- The seven cells of a node, from off on in block b. -/
def NdC (w : World) (b off : Nat) (z : Nd) : Prop :=
  w.cell? ⟨b, off, none⟩ = some (.int .i32 z.l) ∧ w.cell? ⟨b, off + 1, none⟩ = some (.int .i32 z.r) ∧ w.cell? ⟨b, off + 2, none⟩ = some (.int .i64 z.c) ∧ w.cell? ⟨b, off + 3, none⟩ = some (.int .i64 z.s) ∧ w.cell? ⟨b, off + 4, none⟩ = some (.int .i64 z.mn) ∧ w.cell? ⟨b, off + 5, none⟩ = some (.int .i64 z.mx) ∧ w.cell? ⟨b, off + 6, none⟩ = some (.bool z.k)
theorem NdC.block {w w' : World} {b off : Nat} {z : Nd} (h : NdC w b off z) (hb : w'.heap[b]? = w.heap[b]?) : NdC w' b off z := by
  have e : ∀ q, w'.cell? ⟨b, q, none⟩ = w.cell? ⟨b, q, none⟩ := fun q => World.cell?_of_block (a := ⟨b, q, none⟩) hb
  unfold NdC at *
  rw [e, e, e, e, e, e, e]
  exact h
/-- The slice at A holds the nodes zs, in a block below B. -/
def NdS (w : World) (B : Nat) (A : Option Addr) (zs : List Nd) : Prop :=
  ∀ (i : Nat) (z : Nd), zs[i]? = some z → ∃ b off, A = some ⟨b, off, none⟩ ∧ b < B ∧ b < w.heap.size ∧ NdC w b (off + i * 7) z
theorem NdS.below {w w' : World} {B : Nat} {A : Option Addr} {zs : List Nd} (h : NdS w B A zs) (hk : Below B w w') : NdS w' B A zs := fun i z hz => by
  obtain ⟨b, off, e, h1, h2, h3⟩ := h i z hz
  exact ⟨b, off, e, h1, Nat.lt_of_lt_of_le h2 hk.size, h3.block (hk.block b h1)⟩
theorem NdS.keep {w w' : World} {B : Nat} {A : Option Addr} {zs : List Nd} (h : NdS w B A zs) (hk : Keep w w') : NdS w' B A zs := fun i z hz => by
  obtain ⟨b, off, e, h1, h2, h3⟩ := h i z hz
  exact ⟨b, off, e, h1, Nat.lt_of_lt_of_le h2 hk.size, h3.block (hk.block b h2)⟩
theorem NdS.only {w w' : World} {S : Nat → Prop} {B : Nat} {A : Option Addr} {zs : List Nd} (h : NdS w B A zs) (hk : Only S w w') (hS : ∀ b off, A = some ⟨b, off, none⟩ → ¬ S b) : NdS w' B A zs := fun i z hz => by
  obtain ⟨b, off, e, h1, h2, h3⟩ := h i z hz
  exact ⟨b, off, e, h1, Nat.lt_of_lt_of_le h2 hk.size, h3.block (hk.block b h2 (hS b off e))⟩
theorem NdS.of_row {w : World} {base n c : Nat} {A : Option Addr} {zs : List Nd} (h : w.ownsRow base 34 7 (.slice A n c) n (nds zs)) : NdS w w.heap.size A zs := fun j z hj => by
  have hl := (List.getElem?_eq_some_iff.1 hj).1
  have hn : zs.length = n := by
    have h1 := h.1
    rw [nds_length] at h1
    omega
  obtain ⟨g, cap, e⟩ : ∃ g cap, Value.slice A n c = .slice (some ⟨g, 0, none⟩) n cap := by
    rcases h.2 with ⟨e, h0⟩ | ⟨g, cap, cur, e, _⟩
    · exfalso; omega
    · exact ⟨g, cap, e⟩
  cases e
  have hlt := h.lt g rfl
  have hg := nds_get zs j z hj
  have hc : ∀ i, i < 7 → w.cell? ⟨g, 0 + j * 7 + i, none⟩ = (ndc z)[i]? := fun i hi => by
    rw [Nat.zero_add]
    exact (h.cellAt (j * 7 + i) (by omega)).trans (hg i hi)
  exact ⟨g, 0, rfl, hlt.2, hlt.2, hc 0 (by omega), hc 1 (by omega), hc 2 (by omega), hc 3 (by omega), hc 4 (by omega), hc 5 (by omega), hc 6 (by omega)⟩
/-- A slice of nodes that came in. -/
def NdArg (w : World) (a : Option Addr) (len : Nat) (zs : List Nd) : Prop := len ≤ maxLen ∧ zs.length = len ∧ NdS w w.heap.size a zs
set_option maxRecDepth 100000 in
theorem open_arg49 {H : Type} {w : World} {held : Bool} (enc : TypeId × Value → H) {a : Option Addr} {len cap : Nat} {d : DataW H} {p : List MemPlace} (h : DataW.Trod enc Try.prog w 0 (fun _ => true) held 49 (.slice a len cap) d p) : ∃ zs, NdArg w a len zs := by
  obtain ⟨fuel, hf⟩ := h
  have ce : Try.prog.cellsOf 34 = 7 := by kernel_rfl
  rcases open_slice Try.underlying49 hf with ⟨hcs, _⟩ | ⟨ad, l, c, m, n, D, Pl, hcs, _, hl, hm, hmm, _, hx⟩
  · simp [Value.cells] at hcs
    obtain ⟨rfl, rfl, rfl⟩ := hcs
    exact ⟨[], Nat.zero_le _, rfl, fun i z h => by simp at h⟩
  · simp [Value.cells] at hcs
    obtain ⟨rfl, rfl, rfl⟩ := hcs
    have hlm : len ≤ m := by rw [hmm]; simpa using hl
    have hsp : 0 < m → ad.spot = none := by
      intro h0
      obtain ⟨cs', h1, _⟩ := hx 0 h0
      rw [ce] at h1
      obtain ⟨_, hlen, hcell⟩ := World.cells?_some h1
      have e0 := hcell 0 (by omega)
      have h0' : 0 < cs'.length := by omega
      rw [List.getElem?_eq_getElem h0'] at e0
      simp only [add_add] at e0
      have := World.cell?_spot e0
      simpa [Addr.add] using this
    have each : ∀ i, i < len → ∃ z : Nd, ∃ b off, some ad = some ⟨b, off, none⟩ ∧ b < w.heap.size ∧ b < w.heap.size ∧ NdC w b (off + i * 7) z := by
      intro i hi
      obtain ⟨cs', h1, h2⟩ := hx i (by omega)
      rw [ce] at h1
      obtain ⟨_, hlen, hcell⟩ := World.cells?_some h1
      obtain ⟨z, hz⟩ := node_of h2
      subst hz
      have e : ∀ q, q < 7 → w.cell? (ad.add (i * 7 + q)) = (ndc z)[q]? := fun q hq => by
        have := hcell q hq
        rwa [add_add] at this
      have hsp := hsp (by omega)
      obtain ⟨b, off, spot⟩ := ad
      subst hsp
      simp only [addr_add] at e
      have e' : ∀ q, q < 7 → w.cell? ⟨b, off + i * 7 + q, none⟩ = (ndc z)[q]? := fun q hq => by rw [Nat.add_assoc]; exact e q hq
      have hb := World.block_lt_of_cell? w _ (e' 0 (by omega))
      exact ⟨z, b, off, rfl, hb, hb, e' 0 (by omega), e' 1 (by omega), e' 2 (by omega), e' 3 (by omega), e' 4 (by omega), e' 5 (by omega), e' 6 (by omega)⟩
    haveI : Inhabited Nd := ⟨Nd.zero⟩
    obtain ⟨q, hq⟩ := choose_lt each
    refine ⟨(List.range len).map q, by omega, by simp, fun i z hi => ?_⟩
    obtain ⟨hlt, rfl⟩ := List.getElem?_eq_some_iff.1 hi
    rw [List.getElem_map, List.getElem_range]
    exact hq i (by simpa using hlt)
end Go.Proofs.Ytdnhgfbchddabab
