/- A range over a function whose iterator has boxes of its own, made when it is called, and may say of each value how it lies. Nothing of the program. -/
import Derived.Test.YtmdhbbibghpijaaDoorMem
import Derived.RangeFuncNested
import Derived.RangeFuncBound
import Derived.RangeFuncCalls
import Derived.RangeFuncLeaves
import Derived.RangeFuncBox
namespace Go.Proofs.YtmdhbbibghpijaaDoor
open Go.RowKit

theorem Only.putObj {S : Nat → Prop} {a b : World} (h : Only S a b) (l : Nat) (o : Obj) (hl : S l) : Only S a (b.putObj l o) :=
  h.trans (T := fun k => k = l) ⟨rfl, rfl, rfl, by simp, fun k _ hk => World.putObj_heap_other hk⟩ (fun k _ e => by rw [e]; exact hl)
theorem Only.allocs {S : Nat → Prop} {a b : World} (h : Only S a b) (o : Obj) : Only S a (b.alloc o) := h.alloc o

/-- The iterator's word: c boxes are its own (how many, it says itself), from the world's end on when it is called; a round may turn what T lets it; Adm is what it says of each value. -/
def SeqX {α : Type} (F : Fence) (n : Nat) (P : Program) (g : Nat) (lb : Array Value) (encs : α → Array Value) (Adm : List α → α → World → Prop) (T : Nat → Nat → Nat → Prop) (S Sp : List α → Prop) (N : Nat) (w : World) : Prop :=
  ∀ (l : Nat) (J Jx : Nat → List α → World → Prop) (W : World), Keep w W →
    (∀ c s X Y, J c s X → Only (fun k => W.heap.size ≤ k ∧ k < W.heap.size + c) X Y → J c s Y) → (∀ c s X Y, Jx c s X → Only (fun k => W.heap.size ≤ k ∧ k < W.heap.size + c) X Y → Jx c s Y) →
    (∀ c pre x W1, J c pre W1 → Adm pre x W1 → W.heap.size + c ≤ W1.heap.size → pre.length < N → YieldAt F (n - 1) P l (encs x) W1 fun e W' =>
      (e = .returned (.bool true) ∧ J c (pre ++ [x]) W' ∧ Only (T W.heap.size c) W1 W') ∨ (e = .returned (.bool false) ∧ Jx c (pre ++ [x]) W')) →
    (∀ c, J c [] W) →
    CallsIn F n P g (#[.func (.yield l) #[] #[]] ++ lb) W fun e W' => (∃ v, e = .returned v) ∧ ((∃ c xs, S xs ∧ J c xs W') ∨ (∃ c pre, Sp pre ∧ Jx c pre W'))

/-- How the body of a round may be left: B and B + 1 are the loop's own records. -/
def postX {α : Type} (B : Nat) (T : Nat → Prop) (I : List α → World → Prop) (Ix : Code → List α → World → Prop) (xs : List α) (W : World) : Exit → Act → World → Prop
  | .normal, _, W' => Only (fun k => T k ∧ k ≠ B ∧ k ≠ B + 1) W W' ∧ I xs W'
  | .ret, _, W' => Only (fun k => k ≠ B ∧ k ≠ B + 1) W W' ∧ Ix .ret xs W'
  | .exit id, _, W' => Only (fun k => k ≠ B ∧ k ≠ B + 1) W W' ∧ Ix (.exit id) xs W'
  | .goto t, _, W' => Only (fun k => k ≠ B ∧ k ≠ B + 1) W W' ∧ Ix (.goto t) xs W'
  | .panic _, _, _ => False
  | .outgrown, _, _ => False
/-- What holds whatever becomes of the loop's records, and of the iterator's boxes. -/
def Sure {β : Type} (B c : Nat) (I : β → World → Prop) : Prop := ∀ s X Y, I s X → Only (fun k => B ≤ k ∧ k < B + 2 + c) X Y → I s Y

section
variable {F : Fence} {n : Nat} {P : Program}
theorem wpIn_rangeFunc_X {α : Type} {g : Operand} {ps : Array Tmp} {assign body : Code} {Q : Exit → Act → World → Prop} {a : Act} {w : World}
    (hro : F.round = none) (h1 : 1 ≤ n) {gf : Nat} {lb : Array Value} (hg : a.eval g = .func (.func gf) #[] lb) (hFg : F.fn gf) (eg : ∀ args w, (callFunc gf args).run P w = .ok (.enter gf args) w)
    {encs : α → Array Value} {Adm : List α → α → World → Prop} {T : Nat → Nat → Nat → Prop} {S Sp : List α → Prop} {N : Nat} {w0 : World} (hseq : SeqX F (n - 1) P gf lb encs Adm T S Sp N w0)
    (hT : ∀ c, T (w.heap.size + 2) c w.heap.size ∧ T (w.heap.size + 2) c (w.heap.size + 1)) (hb0 : Keep w0 w) (hps : ∀ x, (encs x).size = ps.size)
    (I : Nat → List α → World → Prop) (Ix : Nat → Code → List α → World → Prop) (hI : ∀ c, Sure w.heap.size c (I c)) (hIx : ∀ c e, Sure w.heap.size c (Ix c e)) (h0 : ∀ c, I c [] w)
    (Ax : Nat → List α → α → Act → World → Prop) (hAx : ∀ c pre x a', Sure w.heap.size c (fun (_ : Unit) W => Ax c pre x a' W))
    (hassign : ∀ (l c : Nat) (pre : List α) (x : α) (W : World) (K : Act → World → Prop), I c pre W → Adm pre x W → w.heap.size + 2 + c ≤ W.heap.size → (∀ a' W', Only (fun k => T (w.heap.size + 2) c k ∧ k ≠ w.heap.size ∧ k ≠ w.heap.size + 1) W W' → I c pre W' → Ax c pre x a' W' → K a' W') →
      assign.wpIn (F.inRound l) (n - 1 - 1) P (Exit.then K (fun _ _ _ => False)) { tmps := (ps.zip (encs x)).foldl (fun t (p, v) => t.setIfInBounds p v) a.tmps, defers := [] } W)
    (hbody : ∀ (l c : Nat) (pre : List α) (x : α) (a' : Act) (W : World), I c pre W → Ax c pre x a' W → w.heap.size + 2 + c ≤ W.heap.size → pre.length < N → body.wpIn (F.inRound l) (n - 1 - 1) P (postX w.heap.size (T (w.heap.size + 2) c) (I c) (Ix c) (pre ++ [x]) W) a' W)
    (hdone : ∀ (D c : Nat) (xs : List α) (W : World), w.heap.size ≤ D → S xs → I c xs W → W.heap[D]? = some (.deferred (some [])) → Q .normal { a with defers := { target := .collected D, args := #[] } :: a.defers } W)
    (hstop : ∀ (D c : Nat) (e : Code) (pre : List α) (W : World), w.heap.size ≤ D → Sp pre → Ix c e pre W → W.heap[D]? = some (.deferred (some [])) → e.wpIn F n P Q { a with defers := { target := .collected D, args := #[] } :: a.defers } W) :
    (Code.rangeFunc g ps assign body).wpIn F n P Q a w := by
  refine wpIn_rangeFunc fun fn hfn => ?_
  rw [hro]
  obtain ⟨mk, hmk⟩ : ∃ mk : LoopState → Option Code → Loop, mk = fun st pe => { state := st, pending := pe, fn, tmps := a.tmps, params := ps, assign, body, defers := w.heap.size } := ⟨_, rfl⟩
  obtain ⟨V, hV⟩ : ∃ V, V = (w.alloc (.deferred (some []))).alloc (.loop (mk .ready none)) := ⟨_, rfl⟩
  have hVs : V.heap.size = w.heap.size + 2 := by rw [hV]; simp
  have hVk : Keep w V := by rw [hV]; exact ((Keep.refl w).alloc _).alloc _
  have hVl : V.heap[w.heap.size + 1]? = some (.loop (mk .ready none)) := by
    rw [hV]
    have := World.alloc_heap_new (w.alloc (.deferred (some []))) (.loop (mk .ready none))
    rwa [World.size_alloc] at this
  have hVd : V.heap[w.heap.size]? = some (.deferred (some [])) := by
    rw [hV]
    exact (((Keep.refl _).alloc _).block _ (by simp)).trans (World.alloc_heap_new w _)
  -- both records, as they lie between two rounds
  obtain ⟨R, hR⟩ : ∃ R : LoopState → Option Code → World → Prop, R = fun st pe W => W.heap[w.heap.size + 1]? = some (.loop (mk st pe)) ∧ W.heap[w.heap.size]? = some (.deferred (some [])) := ⟨_, rfl⟩
  have hRo : ∀ {st pe X Y}, R st pe X → Only (fun k => k ≠ w.heap.size ∧ k ≠ w.heap.size + 1) X Y → R st pe Y := by
    rw [hR]
    intro st pe X Y h ho
    exact ⟨(ho.block _ (Array.getElem?_eq_some_iff.1 h.1).1 (fun q => q.2 rfl)).trans h.1, (ho.block _ (Array.getElem?_eq_some_iff.1 h.2).1 (fun q => q.1 rfl)).trans h.2⟩
  have hRp : ∀ {st pe X} (st' : LoopState) (pe' : Option Code), R st pe X → R st' pe' (X.putObj (w.heap.size + 1) (.loop (mk st' pe'))) := by
    rw [hR]
    intro st pe X st' pe' h
    exact ⟨World.putObj_heap_same (Array.getElem?_eq_some_iff.1 h.1).1, (World.putObj_heap_other (by omega)).trans h.2⟩
  have hput : ∀ {c : Nat} {X : World} (o : Obj), Only (fun k => w.heap.size ≤ k ∧ k < w.heap.size + 2 + c) X (X.putObj (w.heap.size + 1) o) := fun o => (Only.refl _ _).putObj _ o ⟨by omega, by omega⟩
  have hputT : ∀ {c : Nat} {X : World} (o : Obj), Only (T (w.heap.size + 2) c) X (X.putObj (w.heap.size + 1) o) := fun o => (Only.refl _ _).putObj _ o (hT _).2
  have hmk2 : ∀ st pe, ({ mk .ready none with state := st, pending := pe } : Loop) = mk st pe := by rw [hmk]; exact fun _ _ => rfl
  have hmk3 : ∀ st, ({ mk .ready none with state := st } : Loop) = mk st none := by rw [hmk]; exact fun _ => rfl
  refine ⟨w.heap.size + 1, [{ target := .collected w.heap.size, args := #[] }], V, { target := .fn (.func gf) lb, args := #[.func (.yield (w.heap.size + 1)) #[] #[]] }, V, gf,
    #[.func (.yield (w.heap.size + 1)) #[] #[]] ++ lb, V, ?_, ?_, ?_, ?_, fun _ => h1, ?_⟩
  · rw [hV, hmk]; exact run_enterLoop_outer _ _ _ _ _
  · simp only [resolve, hg]
    simp [go_sem]
  · intro f' hf'; simp [Target.leads] at hf'; subst hf'; exact hFg
  · simp [invoke, go_sem, eg]
  · refine (hseq (w.heap.size + 1) (fun c pre W => I c pre W ∧ R .ready none W) (fun c pre W => ∃ e, Ix c e pre W ∧ R .done (some e) W) V (hb0.trans hVk) ?_ ?_ ?_ (fun c => ⟨hI c _ _ _ (h0 c) (Only.of_keep _ hVk), by rw [hR]; exact ⟨hVl, hVd⟩⟩)).mono ?_
    · rintro c s X Y ⟨q1, q2⟩ ho
      rw [hVs] at ho
      exact ⟨hI c s X Y q1 (ho.mono (fun k _ h => ⟨by omega, by omega⟩)), hRo q2 (ho.mono (fun k _ h => ⟨by omega, by omega⟩))⟩
    · rintro c s X Y ⟨e, q1, q2⟩ ho
      rw [hVs] at ho
      exact ⟨e, hIx c e s X Y q1 (ho.mono (fun k _ h => ⟨by omega, by omega⟩)), hRo q2 (ho.mono (fun k _ h => ⟨by omega, by omega⟩))⟩
    · rintro c pre x W ⟨hi, hr⟩ hadm hsz hlen
      rw [hVs] at hsz
      have hr' := hr
      rw [hR] at hr'
      have hy := run_yield (P := P) (args := encs x) hr'.1 (by rw [hmk]; exact hps x)
      rw [hVs]
      rw [hmk] at hy
      refine ⟨fn, _, assign, body, hy, roundIn_of_wpIn hfn (hassign _ c pre x W _ hi hadm hsz ?_)⟩
      clear hy hr'
      intro a' W1 ho1 hi1 hax1
      have hr1 := hRo hr (ho1.mono (fun _ _ h => h.2))
      have hr1' := hr1
      rw [hR] at hr1'
      have hbg := run_beginRound (P := P) hr1'.1 (by rw [hmk])
      rw [hmk3] at hbg
      refine ⟨_, hbg, ?_⟩
      have hr2 := hRp .busy none hr1
      refine wpIn_mono (hbody _ c pre x a' _ (hI c _ _ _ hi1 (hput _)) ((hAx c pre x a') () _ _ hax1 (hput _)) (Nat.le_trans hsz (by simpa using ho1.size)) hlen) ?_
      have hend : ∀ (jump : Option Code) (W3 : World), Only (fun k => k ≠ w.heap.size ∧ k ≠ w.heap.size + 1) (W1.putObj (w.heap.size + 1) (.loop (mk .busy none))) W3 →
          (Instr.endRound (w.heap.size + 1) jump).run P W3 = .ok (.bool jump.isNone) (W3.putObj (w.heap.size + 1) (.loop (mk (if jump.isNone then .ready else .done) jump))) ∧
          R (if jump.isNone then .ready else .done) jump (W3.putObj (w.heap.size + 1) (.loop (mk (if jump.isNone then .ready else .done) jump))) := fun jump W3 ho3 => by
        have hr3 := hRo hr2 ho3
        have hr3' := hr3
        rw [hR] at hr3'
        have := run_endRound (P := P) jump hr3'.1
        refine ⟨?_, hRp _ _ hr3⟩
        rw [this, hmk]
      rintro e a3 W3 hp
      cases e with
      | normal =>
        obtain ⟨ho3, hi3⟩ := hp
        obtain ⟨e1, e2⟩ := hend none W3 (ho3.mono (fun _ _ h => h.2))
        exact ⟨_, _, e1, .inl ⟨rfl, ⟨hI c _ _ _ hi3 (hput _), e2⟩, (((ho1.mono (fun _ _ h => h.1)).trans (hputT _) (fun _ _ h => h)).trans (ho3.mono (fun _ _ h => h.1)) (fun _ _ h => h)).trans (hputT _) (fun _ _ h => h)⟩⟩
      | ret =>
        obtain ⟨ho3, hi3⟩ := hp
        obtain ⟨e1, e2⟩ := hend (some .ret) W3 ho3
        exact ⟨_, _, e1, .inr ⟨rfl, .ret, hIx c _ _ _ _ hi3 (hput _), e2⟩⟩
      | exit id =>
        obtain ⟨ho3, hi3⟩ := hp
        obtain ⟨e1, e2⟩ := hend (some (.exit id)) W3 ho3
        exact ⟨_, _, e1, .inr ⟨rfl, .exit id, hIx c _ _ _ _ hi3 (hput _), e2⟩⟩
      | goto t =>
        obtain ⟨ho3, hi3⟩ := hp
        obtain ⟨e1, e2⟩ := hend (some (.goto t)) W3 ho3
        exact ⟨_, _, e1, .inr ⟨rfl, .goto t, hIx c _ _ _ _ hi3 (hput _), e2⟩⟩
      | panic ch => exact hp.elim
      | outgrown => exact hp.elim
    · rintro e W2 ⟨⟨v, rfl⟩, (⟨c, xs, hS, hi, hr⟩ | ⟨c, pre, hSp, e', hi, hr⟩)⟩
      · have hr' := hr
        rw [hR] at hr'
        have := run_endLoop (P := P) hr'.1 (by rw [hmk]; simp)
        rw [hmk] at this
        exact ⟨none, _, this, hdone _ c xs _ (Nat.le_refl _) hS (hI c _ _ _ hi (hput _)) ((World.putObj_heap_other (by omega)).trans hr'.2)⟩
      · have hr' := hr
        rw [hR] at hr'
        have := run_endLoop (P := P) hr'.1 (by rw [hmk]; simp)
        rw [hmk] at this
        exact ⟨some e', _, this, hstop _ c e' pre _ (Nat.le_refl _) hSp (hIx c e' _ _ _ hi (hput _)) ((World.putObj_heap_other (by omega)).trans hr'.2)⟩
end
end Go.Proofs.YtmdhbbibghpijaaDoor
