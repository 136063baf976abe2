/- A cell that came in; an area's slices as a row; what laws want beside. -/
import Derived.Test.YtmdhbbibghpijaaDoorAreaArg
import Derived.Lib.SmallJoins
namespace Go.Proofs.YtmdhbbibghpijaaDoor
open Go.RowKit Go.Joins Go.Deep Go.ChangeShapes Go.WideShapes

theorem ceFields : ∃ f0 f1 : Field, Tryd.prog.underlying 25 = some (.struct #[f0, f1]) ∧ f0.offset = 0 ∧ f1.offset = 1 ∧ f0.type = 3 ∧ f1.type = 23 ∧ (f0.name != "_") = true ∧ (f1.name != "_") = true :=
  ⟨_, _, Tryd.underlying25, by kernel_rfl, by kernel_rfl, by kernel_rfl, by kernel_rfl, by kernel_rfl, by kernel_rfl⟩
set_option maxRecDepth 100000 in
theorem open_arg25 {H : Type} {w : World} {held : Bool} {r : Reach} {b0 : Nat} (enc : TypeId × Value → H) {v : Value} {d : DataW H} {p : List MemPlace}
    (hv : Value.okWide Tryd.prog w r b0 25 v) (h : DataW.Trod enc Tryd.prog w 0 (fun _ => true) held 25 v d p) : ∃ z : Int × Int, v = .agg #[.int .i64 z.1, .int .u32 z.2] ∧ (Lit.int .i64 z.1).wf = true ∧ (Lit.int .u32 z.2).wf = true := by
  obtain ⟨f0, f1, e, o0, o1, t0, t1, n0, n1⟩ := ceFields
  have hone : oneCellFields Tryd.prog #[f0, f1] = true := by
    have : (Tryd.prog.underlying 25).map (fun d => match d with | .struct fs => oneCellFields Tryd.prog fs | _ => false) = some true := by kernel_rfl
    rw [e] at this
    exact Option.some.inj this
  obtain ⟨v0, v1, y0, y1, n, rfl, rfl, rfl, h0, h1⟩ := open_agg2 e hone (by kernel_rfl) hv h
  rw [t0] at h0
  rw [t1] at h1
  obtain ⟨x0, q0, _, wf0⟩ := DataW.trod_int Tryd.underlying3 h0
  obtain ⟨x1, q1, _, wf1⟩ := DataW.trod_int Tryd.underlying23 h1
  simp only [List.cons.injEq, and_true] at q0 q1
  subst q0 q1
  exact ⟨(x0, x1), rfl, wf0, wf1⟩
/-- An area's slices, as a row. -/
theorem area_row {w : World} {A : Option Addr} {n N : Nat} {f : Nat → Int → Bool} (h : Area w A n N f) : ∃ rs : List SV, rs.length = n ∧ Lies w w.heap.size A n (rs.map SV.v) ∧ ∀ i r, rs[i]? = some r → Bg w r.1 r.2.1 r.2.2 (f i) ∧ r.2.1 ≤ N := by
  have each : ∀ i, i < n → ∃ r : SV, ∃ b off, A = some ⟨b, off, none⟩ ∧ b < w.heap.size ∧ w.cell? ⟨b, off + i, none⟩ = some r.v ∧ Bg w r.1 r.2.1 r.2.2 (f i) ∧ r.2.1 ≤ N := by
    intro i hi
    obtain ⟨b, off, a, l, c, e, hb, hc, hg, hl⟩ := h.row i hi
    exact ⟨(a, l, c), b, off, e, hb, hc, hg, hl⟩
  have e2 : ∀ i, ∃ r : SV, i < n → ∃ b off, A = some ⟨b, off, none⟩ ∧ b < w.heap.size ∧ w.cell? ⟨b, off + i, none⟩ = some r.v ∧ Bg w r.1 r.2.1 r.2.2 (f i) ∧ r.2.1 ≤ N := by
    intro i
    by_cases hi : i < n
    · obtain ⟨r, hr⟩ := each i hi
      exact ⟨r, fun _ => hr⟩
    · exact ⟨(none, 0, 0), fun h => absurd h hi⟩
  refine ⟨(List.range n).map fun i => (e2 i).choose, by simp, ⟨by simp, fun h0 => ?_⟩, fun i r hr => ?_⟩
  · obtain ⟨b, off, e, hb, -⟩ := (e2 0).choose_spec h0
    refine ⟨b, off, e, hb, fun j hj => ?_⟩
    obtain ⟨b', off', e', -, hc, -⟩ := (e2 j).choose_spec hj
    rw [e] at e'
    cases e'
    rw [hc]
    simp [List.getD_eq_getElem?_getD, hj]
  · obtain ⟨hi, rfl⟩ := List.getElem?_eq_some_iff.1 hr
    simp only [List.length_map, List.length_range] at hi
    obtain ⟨-, -, -, -, -, hg, hl⟩ := (e2 i).choose_spec hi
    simp only [List.getElem_map, List.getElem_range]
    exact ⟨hg, hl⟩
theorem area_of_lies {w : World} {B : Nat} {A : Option Addr} {n N : Nat} {f : Nat → Int → Bool} {rs : List SV} (h : Lies w B A n (rs.map SV.v)) (hB : B ≤ w.heap.size) (hl : rs.length = n) (ho : ∀ i, n ≤ i → ∀ k, f i k = false) (hr : ∀ i r, rs[i]? = some r → Bg w r.1 r.2.1 r.2.2 (f i) ∧ r.2.1 ≤ N) : Area w A n N f := by
  refine ⟨ho, fun i hi => ?_⟩
  obtain ⟨b, off, e, hb, hc⟩ := h.2 (by omega)
  have hir : rs[i]? = some rs[i] := List.getElem?_eq_getElem (by omega)
  obtain ⟨h1, h2⟩ := hr i _ hir
  refine ⟨b, off, rs[i].1, rs[i].2.1, rs[i].2.2, e, by omega, ?_, h1, h2⟩
  rw [hc i hi]
  simp [List.getD_eq_getElem?_getD, hir]
  rfl
theorem has_v {w : World} {A : Option Addr} {na ca N : Nat} {f : Nat → Int → Bool} (lb k : Int) (v : Bool) (hA : Area w A na N f) (hN : N ≤ 20000) (hv : fz f lb k = v) :
    Calls Tryd.prog 20 #[.slice A na ca, .agg #[.int .i64 lb, .int .u32 k]] w fun e w' => e = .returned (.bool v) ∧ Keep w w' := hv ▸ has_a lb k hA hN
theorem union_n {w : World} {A B : Option Addr} {na ca nb cb N M : Nat} {f g : Nat → Int → Bool} (n : Nat) (hn : max na nb = n) (hA : Area w A na N f) (hB : Area w B nb M g) (hN : N ≤ 20000) (hM : M ≤ 20000) (hl : n + 1 ≤ 1000000) :
    Calls Tryd.prog 12 #[.slice A na ca, .slice B nb cb] w (OutA w n (N + M) (fun i k => f i k || g i k)) := by
  subst hn
  exact union_a hA hB hN hM hl
theorem meet_n {w : World} {A B : Option Addr} {na ca nb cb N M : Nat} {f g : Nat → Int → Bool} (n : Nat) (hn : max na nb = n) (hA : Area w A na N f) (hB : Area w B nb M g) (hN : N ≤ 20000) (hM : M ≤ 20000) (hl : n + 1 ≤ 1000000) :
    Calls Tryd.prog 13 #[.slice A na ca, .slice B nb cb] w (OutA w n (N + M) (fun i k => f i k && g i k)) := by
  subst hn
  exact meet_a hA hB hN hM hl
theorem minus_n {w : World} {A B : Option Addr} {na ca nb cb N M : Nat} {f g : Nat → Int → Bool} (n : Nat) (hn : max na nb = n) (hA : Area w A na N f) (hB : Area w B nb M g) (hN : N ≤ 20000) (hM : M ≤ 20000) (hl : n + 1 ≤ 1000000) :
    Calls Tryd.prog 14 #[.slice A na ca, .slice B nb cb] w (OutA w n (N + M + 1) (fun i k => f i k && !g i k)) := by
  subst hn
  exact minus_a hA hB hN hM hl
theorem fz_or (f g : Nat → Int → Bool) (i k : Int) : fz (fun i k => f i k || g i k) i k = (fz f i k || fz g i k) := by unfold fz; split <;> rfl
theorem fz_and (f g : Nat → Int → Bool) (i k : Int) : fz (fun i k => f i k && g i k) i k = (fz f i k && fz g i k) := by unfold fz; split <;> rfl
theorem fz_minus (f g : Nat → Int → Bool) (i k : Int) : fz (fun i k => f i k && !g i k) i k = (fz f i k && !fz g i k) := by unfold fz; split <;> rfl
theorem mask_exists {w : World} {A : Option Addr} {na N : Nat} {f : Nat → Int → Bool} (hA : Area w A na N f) (hN : N ≤ 40000) (hl : na ≤ 1000000) : ∃ M : Nat, MaskOf f M := by
  obtain ⟨e, w', fr, ⟨M, -, hM, -⟩, -⟩ := mask_a (ca := na) hA hN hl (Nat.le_refl _) []
  exact ⟨M, hM⟩
theorem mask_v {w : World} {A : Option Addr} {na ca N : Nat} {f : Nat → Int → Bool} {M : Nat} (hA : Area w A na N f) (hN : N ≤ 40000) (hl : na ≤ 1000000) (hcap : na ≤ ca) (hM : MaskOf f M) :
    Calls Tryd.prog 27 #[.slice A na ca] w fun e w' => e = .returned (.int .u32 M) ∧ Keep w w' := by
  refine (mask_a hA hN hl hcap).mono ?_
  rintro e w' ⟨M', rfl, hM', hk⟩
  obtain rfl := hM'.unique hM (fun _ _ => Iff.rfl)
  exact ⟨rfl, hk⟩
theorem mask_or {f g : Nat → Int → Bool} {a b m : Nat} (ha : MaskOf f a) (hb : MaskOf g b) (hm : MaskOf (fun i k => f i k || g i k) m) : m = a ||| b := by
  refine Nat.eq_of_testBit_eq fun i => ?_
  rw [Nat.testBit_or]
  have h1 := ha.2 i
  have h2 := hb.2 i
  have h3 := hm.2 i
  have e : (∃ k, (f i k || g i k) = true) ↔ (∃ k, f i k = true) ∨ ∃ k, g i k = true := by
    constructor
    · rintro ⟨k, hk⟩
      rcases Bool.or_eq_true_iff.1 hk with h | h
      · exact .inl ⟨k, h⟩
      · exact .inr ⟨k, h⟩
    · rintro (⟨k, hk⟩ | ⟨k, hk⟩) <;> exact ⟨k, by simp [hk]⟩
  dsimp only at h3
  rw [e] at h3
  by_cases hi : i < 32
  · cases x : a.testBit i <;> cases y : b.testBit i <;> cases z : m.testBit i <;> simp_all
  · cases x : a.testBit i <;> cases y : b.testBit i <;> cases z : m.testBit i <;> simp_all
theorem mask_sub {f g : Nat → Int → Bool} {a m : Nat} (ha : MaskOf f a) (hm : MaskOf (fun i k => f i k && g i k) m) (i : Nat) (h : m.testBit i = true) : a.testBit i = true := by
  obtain ⟨h1, k, hk⟩ := (hm.2 i).1 h
  exact (ha.2 i).2 ⟨h1, k, by dsimp only at hk; simp at hk; exact hk.1⟩
end Go.Proofs.YtmdhbbibghpijaaDoor
