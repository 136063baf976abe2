/- A span that came in; what stays of a tree beside rows that grow. -/
import Derived.Test.YtopengbflnoneaaSegPairs
import Derived.Test.YtopengbflnoneaaSegWays
import Derived.Lib.SmallJoins
import Derived.OpenShut
namespace Go.Proofs.Ytopengbflnoneaa
open Go.RowKit Go.Joins Go.ChangeShapes Go.WideShapes Go.Deep

structure Spn where
  lo : Int
  hi : Int
def Spn.ok (z : Spn) : Prop := (0 ≤ z.lo ∧ z.lo ≤ 4294967295) ∧ 0 ≤ z.hi ∧ z.hi ≤ 4294967295
theorem bounds_u32' {x : Int} (h : (Lit.int .u32 x).wf = true) : 0 ≤ x ∧ x ≤ 4294967295 := by
  have e1 : IntKind.u32.min = 0 := by decide
  have e2 : IntKind.u32.max = 4294967295 := by decide
  simp [Lit.wf, e1, e2] at h
  omega
theorem spnFields : ∃ f0 f1 : Field, Try.prog.underlying 36 = some (.struct #[f0, f1]) ∧ f0.offset = 0 ∧ f1.offset = 1 ∧ f0.type = 32 ∧ f1.type = 32 ∧ (f0.name != "_") = true ∧ (f1.name != "_") = true :=
  ⟨_, _, Try.underlying36, by kernel_rfl, by kernel_rfl, by kernel_rfl, by kernel_rfl, by kernel_rfl, by kernel_rfl⟩
set_option maxRecDepth 100000 in
theorem open_arg36 {H : Type} {w : World} {held : Bool} {r : Reach} {b0 : Nat} (enc : TypeId × Value → H) {v : Value} {d : DataW H} {p : List MemPlace}
    (hv : Value.okWide Try.prog w r b0 36 v) (h : DataW.Trod enc Try.prog w 0 (fun _ => true) held 36 v d p) : ∃ z : Spn, v = .agg #[.int .u32 z.lo, .int .u32 z.hi] ∧ z.ok := by
  obtain ⟨f0, f1, e, o0, o1, t0, t1, n0, n1⟩ := spnFields
  have hone : oneCellFields Try.prog #[f0, f1] = true := by
    have : (Try.prog.underlying 36).map (fun d => match d with | .struct fs => oneCellFields Try.prog fs | _ => false) = some true := by kernel_rfl
    rw [e] at this
    exact Option.some.inj this
  obtain ⟨v0, v1, y0, y1, n, rfl, rfl, rfl, h0, h1⟩ := open_agg2 e hone (by kernel_rfl) hv h
  rw [t0] at h0
  rw [t1] at h1
  obtain ⟨x0, q0, _, wf0⟩ := DataW.trod_int Try.underlying32 h0
  obtain ⟨x1, q1, _, wf1⟩ := DataW.trod_int Try.underlying32 h1
  simp only [List.cons.injEq, and_true] at q0 q1
  subst q0 q1
  refine ⟨⟨x0, x1⟩, rfl, ?_⟩
  have b0 := bounds_u32' wf0
  have b1 := bounds_u32' wf1
  exact ⟨⟨by dsimp only; omega, by dsimp only; omega⟩, by dsimp only; omega, by dsimp only; omega⟩
/-- Blocks of Pr may turn; what is made then is protected. -/
theorem My.onlyN {w0 w w' : World} {b lim : Nat} {xs : List Nd} {Pr : Nat → Prop} {S : Nat → Prop} (h : My w0 b lim xs Pr w) (ho : Only S w w') (hS : ∀ k, S k → Pr k ∧ w0.heap.size ≤ k) : My w0 b lim xs (fun k => Pr k ∨ (w.heap.size ≤ k ∧ k < w'.heap.size)) w' := by
  obtain ⟨A, c, h1, h2, h3, h4⟩ := h
  refine ⟨A, c, h1.only ho (fun s => (h4 b (hS b s).1).2.1 rfl) (fun g e s => (h4 g (hS g s).1).2.2 e), Only.keep h2 ho (fun k s => (hS k s).2), h3, fun k hp => ?_⟩
  rcases hp with hp | ⟨hp1, hp2⟩
  · obtain ⟨q1, q2, q3⟩ := h4 k hp
    exact ⟨Nat.lt_of_lt_of_le q1 ho.size, q2, q3⟩
  · refine ⟨hp2, ?_, fun e => ?_⟩
    · have := h1.lt; omega
    · have := (h1.own.lt k e).2; omega
theorem Tre.onlyN {w0 w w' : World} {b lim n : Nat} {t : Sh} {kvs : List (Int × Int)} {Pr : Nat → Prop} {S : Nat → Prop} (h : Tre w0 b lim n t kvs Pr w) (ho : Only S w w') (hS : ∀ k, S k → Pr k ∧ w0.heap.size ≤ k) : Tre w0 b lim n t kvs (fun k => Pr k ∨ (w.heap.size ≤ k ∧ k < w'.heap.size)) w' := by
  obtain ⟨xs, h1, h2⟩ := h
  exact ⟨xs, h1.onlyN ho hS, h2⟩
/-- All that keys put in one by one leave: which keys, and how many nodes. -/
theorem insK_len {key v : Int} {kvs : List (Int × Int)} {m : Nat} (h : kvs.length ≤ m) : (insK key v kvs).length ≤ m + 1 := Nat.le_trans (insK_length key v kvs) (by omega)
end Go.Proofs.Ytopengbflnoneaa
