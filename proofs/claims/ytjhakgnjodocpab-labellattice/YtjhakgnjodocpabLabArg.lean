/- A label that came in: what a walk is told of it. The answers of calls, each with its own letter. -/
import Derived.Test.YtjhakgnjodocpabLabAlive
import Derived.Lib.SmallJoins
import Derived.OpenShut
namespace Go.Proofs.Ytjhakgnjodocpab
open Go.RowKit Go.Joins Go.ChangeShapes Go.WideShapes Go.Deep

theorem open_arg24 {H : Type} {w : World} {held : Bool} {r : Reach} {b0 : Nat} (enc : TypeId × Value → H) {v : Value} {d : DataW H} {p : List MemPlace}
    (hv : Value.okWide Try.prog w r b0 24 v) (h : DataW.Trod enc Try.prog w 0 (fun _ => true) held 24 v d p) : ∃ z : Lb, v = .agg #[.int .u8 z.lv, .int .u16 z.ct] ∧ z.ok := by
  obtain ⟨f0, f1, e, o0, o1, t0, t1, n0, n1⟩ := lbFields
  have hone : oneCellFields Try.prog #[f0, f1] = true := by
    have : (Try.prog.underlying 24).map (fun d => match d with | .struct fs => oneCellFields Try.prog fs | _ => false) = some true := by kernel_rfl
    rw [e] at this
    exact Option.some.inj this
  obtain ⟨v0, v1, y0, y1, n, rfl, rfl, rfl, h0, h1⟩ := open_agg2 e hone (by kernel_rfl) hv h
  rw [t0] at h0
  rw [t1] at h1
  obtain ⟨x0, q0, _, wf0⟩ := DataW.trod_int Try.underlying5 h0
  obtain ⟨x1, q1, _, wf1⟩ := DataW.trod_int Try.underlying22 h1
  simp only [List.cons.injEq, and_true] at q0 q1
  subst q0 q1
  refine ⟨⟨x0, x1⟩, rfl, ?_⟩
  have b0 := bounds_u8 wf0
  have b1 := bounds_u16 wf1
  exact ⟨⟨by dsimp only; omega, by dsimp only; omega⟩, by dsimp only; omega, by dsimp only; omega⟩

theorem dom_is (a b : Lb) (v : Bool) (w : World) (ha : a.ok) (hb : b.ok) (h : dm a b = v) :
    Calls Try.prog 11 #[.agg #[.int .u8 a.lv, .int .u16 a.ct], .agg #[.int .u8 b.lv, .int .u16 b.ct]] w fun e w' => e = .returned (.bool v) ∧ Keep w w' := h ▸ dom_any a b w ha hb
theorem less_is (a b : Lb) (v : Bool) (w : World) (ha : a.ok) (hb : b.ok) (h : decide (nm a < nm b) = v) :
    Calls Try.prog 20 #[.agg #[.int .u8 a.lv, .int .u16 a.ct], .agg #[.int .u8 b.lv, .int .u16 b.ct]] w fun e w' => e = .returned (.bool v) ∧ Keep w w' := h ▸ less_any a b w ha hb
theorem check_is (a : Lb) (v : Int) (w : World) (h : chk a = v) :
    Calls Try.prog 17 #[.agg #[.int .u8 a.lv, .int .u16 a.ct]] w fun e w' => e = .returned (.int .i64 v) ∧ Keep w w' := h ▸ check_any a w
end Go.Proofs.Ytjhakgnjodocpab
