/- ivl.Meet, as numbers. -/
import Derived.Test.YtmdhbbibghpijaaDoorIvlNot2
import Derived.Test.YtmdhbbibghpijaaDoorSeq
namespace Go.Proofs.YtmdhbbibghpijaaDoor
open Go.RowKit

theorem Rt.tl {x : Sp} {xs : List Sp} (h : Rt (x :: xs)) : Rt xs ∧ x.lo ≤ x.hi ∧ ∀ y ∈ xs, x.hi + 1 < y.lo :=
  ⟨⟨fun s hs => h.1 s (by simp [hs]), (List.pairwise_cons.1 h.2).2⟩, h.1 x (by simp), (List.pairwise_cons.1 h.2).1⟩
/-- How far Meet has come. -/
structure Mt (P : Int → Prop) (xs ys ms : List Sp) (N : Nat) : Prop where
  rt : Rt ms
  ok : ∀ s ∈ ms, s.ok
  keys : ∀ k, P k ↔ (mem ms k ∨ (mem xs k ∧ mem ys k))
  sep : ∀ s ∈ ms, (∀ x ∈ xs, s.hi + 1 < x.lo) ∨ (∀ y ∈ ys, s.hi + 1 < y.lo)
  rx : Rt xs
  ry : Rt ys
  okx : ∀ s ∈ xs, s.ok
  oky : ∀ s ∈ ys, s.ok
  num : ms.length + (xs.length + ys.length) ≤ N
/-- What two spans share. -/
def shr (x y : Sp) : Sp := ⟨max x.lo y.lo, min x.hi y.hi⟩
theorem shr_in (x y : Sp) (k : Int) : inS (shr x y) k ↔ inS x k ∧ inS y k := by
  unfold inS shr
  simp only
  omega
theorem shr_ok {x y : Sp} (hx : x.ok) (hy : y.ok) : (shr x y).ok := by
  obtain ⟨⟨a1, a2⟩, a3, a4⟩ := hx
  obtain ⟨⟨b1, b2⟩, b3, b4⟩ := hy
  exact ⟨⟨by show 0 ≤ max x.lo y.lo; omega, by show max x.lo y.lo ≤ _; omega⟩, by show 0 ≤ min x.hi y.hi; omega, by show min x.hi y.hi ≤ _; omega⟩
/-- The met ones with what the first two share, if there is something. -/
def addS (ms : List Sp) (s : Sp) : List Sp := if s.hi < s.lo then ms else ms ++ [s]
theorem addS_mem (ms : List Sp) (s : Sp) (k : Int) : mem (addS ms s) k ↔ mem ms k ∨ inS s k := by
  unfold addS
  split
  · rename_i h
    constructor
    · exact .inl
    · rintro (h1 | ⟨h1, h2⟩)
      · exact h1
      · omega
  · rw [mem_append, mem_cons]
    simp only [mem_nil, or_false]
theorem addS_len (ms : List Sp) (s : Sp) : (addS ms s).length ≤ ms.length + 1 := by unfold addS; split <;> simp
theorem mem_hd {x : Sp} {xs : List Sp} {k : Int} (h : mem (x :: xs) k) (hr : Rt (x :: xs)) : inS x k ∨ (mem xs k ∧ x.hi + 1 < k) := by
  rcases mem_cons.1 h with h | h
  · exact .inl h
  · obtain ⟨s, hs, h1, h2⟩ := h
    have := hr.tl.2.2 s hs
    exact .inr ⟨⟨s, hs, h1, h2⟩, by omega⟩
theorem Mt.add {P : Int → Prop} {x y : Sp} {xs ys ms : List Sp} {N : Nat} (h : Mt P (x :: xs) (y :: ys) ms N) : Rt (addS ms (shr x y)) ∧ (∀ s ∈ addS ms (shr x y), s.ok) := by
  unfold addS
  split
  · exact ⟨h.rt, h.ok⟩
  · rename_i he
    refine ⟨rt_snoc h.rt (by omega) (fun s hs => ?_), fun s hs => ?_⟩
    · show s.hi + 1 < max x.lo y.lo
      rcases h.sep s hs with h1 | h1
      · have := h1 x (by simp); omega
      · have := h1 y (by simp); omega
    · rcases List.mem_append.1 hs with h1 | h1
      · exact h.ok s h1
      · obtain rfl : s = shr x y := by simpa using h1
        exact shr_ok (h.okx x (by simp)) (h.oky y (by simp))
theorem addS_cases {ms : List Sp} {s t : Sp} (h : t ∈ addS ms s) : t ∈ ms ∨ t = s := by
  unfold addS at h
  split at h
  · exact .inl h
  · rcases List.mem_append.1 h with h | h
    · exact .inl h
    · exact .inr (by simpa using h)
theorem Mt.left {P : Int → Prop} {x y : Sp} {xs ys ms : List Sp} {N : Nat} (h : Mt P (x :: xs) (y :: ys) ms N) (hlt : x.hi < y.hi) : Mt P xs (y :: ys) (addS ms (shr x y)) N := by
  obtain ⟨t1, t2, t3⟩ := h.rx.tl
  obtain ⟨h1, h2⟩ := h.add
  refine ⟨h1, h2, fun k => ?_, fun s hs => ?_, t1, h.ry, fun s hs => h.okx s (by simp [hs]), h.oky, ?_⟩
  · rw [h.keys k, addS_mem, shr_in]
    constructor
    · rintro (g | ⟨g1, g2⟩)
      · exact .inl (.inl g)
      · rcases mem_cons.1 g1 with g1 | g1
        · rcases mem_hd g2 h.ry with g2 | ⟨_, g2⟩
          · exact .inl (.inr ⟨g1, g2⟩)
          · unfold inS at g1; omega
        · exact .inr ⟨g1, g2⟩
    · rintro ((g | ⟨g1, g2⟩) | ⟨g1, g2⟩)
      · exact .inl g
      · exact .inr ⟨mem_cons.2 (.inl g1), mem_cons.2 (.inl g2)⟩
      · exact .inr ⟨mem_cons.2 (.inr g1), g2⟩
  · rcases addS_cases hs with g | rfl
    · rcases h.sep s g with g | g
      · exact .inl (fun z hz => g z (by simp [hz]))
      · exact .inr g
    · refine .inl (fun z hz => ?_)
      have := t3 z hz
      show min x.hi y.hi + 1 < z.lo
      omega
  · have := addS_len ms (shr x y)
    have := h.num
    simp only [List.length_cons] at *
    omega
theorem Mt.right {P : Int → Prop} {x y : Sp} {xs ys ms : List Sp} {N : Nat} (h : Mt P (x :: xs) (y :: ys) ms N) (hge : ¬ x.hi < y.hi) : Mt P (x :: xs) ys (addS ms (shr x y)) N := by
  obtain ⟨t1, t2, t3⟩ := h.ry.tl
  obtain ⟨h1, h2⟩ := h.add
  refine ⟨h1, h2, fun k => ?_, fun s hs => ?_, h.rx, t1, h.okx, fun s hs => h.oky s (by simp [hs]), ?_⟩
  · rw [h.keys k, addS_mem, shr_in]
    constructor
    · rintro (g | ⟨g1, g2⟩)
      · exact .inl (.inl g)
      · rcases mem_cons.1 g2 with g2 | g2
        · rcases mem_hd g1 h.rx with g1 | ⟨_, g1⟩
          · exact .inl (.inr ⟨g1, g2⟩)
          · unfold inS at g2; omega
        · exact .inr ⟨g1, g2⟩
    · rintro ((g | ⟨g1, g2⟩) | ⟨g1, g2⟩)
      · exact .inl g
      · exact .inr ⟨mem_cons.2 (.inl g1), mem_cons.2 (.inl g2)⟩
      · exact .inr ⟨g1, mem_cons.2 (.inr g2)⟩
  · rcases addS_cases hs with g | rfl
    · rcases h.sep s g with g | g
      · exact .inl g
      · exact .inr (fun z hz => g z (by simp [hz]))
    · refine .inr (fun z hz => ?_)
      have := t3 z hz
      show min x.hi y.hi + 1 < z.lo
      omega
  · have := addS_len ms (shr x y)
    have := h.num
    simp only [List.length_cons] at *
    omega
theorem Mt.done {P : Int → Prop} {xs ys ms : List Sp} {N : Nat} (h : Mt P xs ys ms N) (he : xs = [] ∨ ys = []) : IsSet ms P := by
  refine ⟨h.rt, fun k => ?_, h.ok⟩
  rw [h.keys k]
  rcases he with rfl | rfl <;> simp [mem_nil]

section
variable {P : Program} {Q : Exit → Act → World → Prop} {S : World → Prop}
/-- An operation that makes or turns memory, alone when its turn comes. -/
theorem seq_val {o : Oper} {gs : Option (Option Tmp × Bool)} {rest : List (Option RowR)} {a a' : Act} {w w' : World} {v : Value} (hw : wantR gs a.tmps = true)
    (hr : (execOp a.eval o).run P w = .ok (.value v) w') (hS : S w') (ha : a.put o.dst v = a') (h : SeqR P Q S rest a' w') : SeqR P Q S (some ⟨o, gs, true⟩ :: rest) a w := by
  subst ha
  refine .inl ⟨rfl, fun K hK => ?_⟩
  simp only [hw, if_true]
  unfold Oper.wp
  rw [hr]
  exact hK.out _ _ hS h
theorem seq_skp {o : Oper} {gs : Option (Option Tmp × Bool)} {rest : List (Option RowR)} {a a' : Act} {w w' : World} (hw : wantR gs a.tmps = true)
    (hr : (execOp a.eval o).run P w = .ok .skip w') (hS : S w') (ha : a.put o.dst undef = a') (h : SeqR P Q S rest a' w') : SeqR P Q S (some ⟨o, gs, true⟩ :: rest) a w := by
  subst ha
  refine .inl ⟨rfl, fun K hK => ?_⟩
  simp only [hw, if_true]
  unfold Oper.wp
  rw [hr]
  exact hK.out _ _ hS h
end
end Go.Proofs.YtmdhbbibghpijaaDoor
