/- The law's own nodes: as many nodes as are asked for, and are there, in order. -/
import Derived.Test.YtdnhgfbchddababArnAll
namespace Go.Proofs.Ytdnhgfbchddabab
open Go.RowKit Go.Shelf
attribute [local go_sem] Oper.semAt_some

theorem Boxed.kept_row {W w1 : World} {n₀ B : Nat} {t e : TypeId} {u v : Value} {size k : Nat} {xs : List Value} {tmp : Obj} (hb : Boxed W B t u) (hB : B < n₀) (hrow : W.ownsRow n₀ e size v k xs)
    (hgrow : (W.alloc tmp).grownBy w1 v.ownBlock) : Boxed w1 B t u := (hb.alloc tmp).kept hgrow (fun e => by have := hrow.lt B e.symm; omega)
theorem Boxed.kept_ty {W w1 : World} {n₀ B : Nat} {t e : TypeId} {u v : Value} {size k : Nat} {xs : List Value} {tmp : Obj} (hb : Boxed W B t u) (ht : t ≠ e) (hrow : W.ownsRow n₀ e size v k xs)
    (hgrow : (W.alloc tmp).grownBy w1 v.ownBlock) : Boxed w1 B t u := (hb.alloc tmp).kept hgrow (hb.not_row ht hrow)
/-- A node in a block of its own stays, whatever loops note. -/
theorem ndat_own {β : Type} (B b : Nat) (z : Nd) : OwnFrom B (fun (_ : β) W => NdAt W b z) := fun _ X Y row hs hg hr => by
  have hs' : X.heap[b]? = some (.cells #[.int .i32 z.l, .int .i32 z.r, .int .i64 z.c, .int .i64 z.s, .int .i64 z.mn, .int .i64 z.mx, .bool z.k] 34 (0, 0)) := hs
  refine (hg.block b hs.lt (fun e => ?_)).trans hs
  obtain ⟨o, ho, hcl⟩ := (hr b e.symm).2
  rw [hs'] at ho
  cases ho
  cases hcl

/-- Are all numbers right, as ints? -/
def okN (pre : List (Int × Nd)) : Prop := ∀ (j : Nat) (x : Int × Nd), pre[j]? = some x → wrap64 x.1 = (j : Int) + 1
theorem okN.nil : okN [] := fun j x h => by simp at h
theorem okN.snoc {pre : List (Int × Nd)} {x : Int × Nd} (h : okN pre) (hx : wrap64 x.1 = (pre.length : Int) + 1) : okN (pre ++ [x]) := fun j y hy => by
  by_cases hj : j < pre.length
  · exact h j y (by rwa [List.getElem?_append_left hj] at hy)
  · rw [List.getElem?_append_right (by omega)] at hy
    have hl := (List.getElem?_eq_some_iff.1 hy).1
    simp at hl
    have e : j = pre.length := by omega
    subst e
    simp at hy
    rw [← hy, hx]
theorem okN.not {pre : List (Int × Nd)} {x : Int × Nd} (hx : ¬ wrap64 x.1 = (pre.length : Int) + 1) : ¬ okN (pre ++ [x]) := fun h => hx (h pre.length x (by simp))
theorem nums_prefix {pre : List (Int × Nd)} {xs : List Nd} (h : pre <+: nums 0 xs) (hl : xs.length ≤ 4194304) : okN pre ∧ pre.map (·.2) = xs.take pre.length := by
  obtain ⟨suf, h⟩ := h
  have h2 : pre = (nums 0 xs).take pre.length := by rw [← h]; simp
  have h3 : pre.map (·.2) = xs.take pre.length := by
    conv => lhs; rw [h2]
    rw [List.map_take, nums_snd]
  refine ⟨fun j x hx => ?_, h3⟩
  have hj := (List.getElem?_eq_some_iff.1 hx).1
  have hjl : j < xs.length := by
    have := congrArg List.length h
    rw [nums_length, List.length_append] at this
    omega
  have e := nums_get 0 xs j xs[j] (List.getElem?_eq_getElem hjl)
  rw [← h, List.getElem?_append_left hj, hx] at e
  simp only [Option.some.injEq] at e
  rw [e]
  simp only [wrap64]
  omega

/-- What nodes answers: a row of its own, and yes. -/
def NodesPost (w : World) (ys : List Nd) (e : Ending) (w' : World) : Prop :=
  ∃ (A : Option Addr) (c : Nat), e = .returned (.tuple #[.slice A ys.length c, .bool true]) ∧ w'.ownsRow w.heap.size 34 7 (.slice A ys.length c) ys.length (nds ys) ∧ Keep w w'

def NodesI (w : World) (b m : Nat) (pre : List (Int × Nd)) (W : World) : Prop :=
  (((∃ v, Boxed W (w.heap.size + 1 + 1 + 1 + 1) 49 v ∧ W.ownsRow (w.heap.size + 1 + 1 + 1) 34 7 v pre.length (nds (pre.map (·.2))) ∧ v ≠ .slice none 0 0) ∧ Boxed W w.heap.size 3 (.int .i64 m)) ∧
    (Boxed W (w.heap.size + 1) 49 (.slice none 0 0) ∧ Boxed W (w.heap.size + 1 + 1) 4 (.bool false))) ∧
  ((Boxed W (w.heap.size + 1 + 1 + 1 + 1 + 1) 24 (.pointer (some ⟨b, 0, none⟩)) ∧ Below w.heap.size w W) ∧ (pre.length < m ∧ okN pre))
def NodesX (w : World) (m : Nat) (c : Code) (pre : List (Int × Nd)) (W : World) : Prop :=
  (((∃ v, Boxed W (w.heap.size + 1) 49 v ∧ W.ownsRow (w.heap.size + 1 + 1 + 1) 34 7 v pre.length (nds (pre.map (·.2))) ∧ v ≠ .slice none 0 0) ∧ Boxed W (w.heap.size + 1 + 1) 4 (.bool true)) ∧ ((c = .ret ∧ pre.length = m) ∧ Below w.heap.size w W)) ∨ (c = .ret ∧ ¬ okN pre)
theorem nodesI_own (w : World) (b m B : Nat) (hB : w.heap.size ≤ B) : OwnFrom B (NodesI w b m) :=
  OwnFrom.and (OwnFrom.and (OwnFrom.and (Own.from (holdsRow_own (w.heap.size + 1 + 1 + 1) (w.heap.size + 1 + 1 + 1 + 1) 49 34 7 (fun pre : List (Int × Nd) => pre.length) (fun pre => nds (pre.map (·.2))) (fun _ v => v ≠ .slice none 0 0)) _) (Own.from (boxed_own _ _ _) _)) (OwnFrom.and (Own.from (boxed_own _ _ _) _) (Own.from (boxed_own _ _ _) _)))
    (OwnFrom.and (OwnFrom.and (Own.from (boxed_own _ _ _) _) (ownFrom_below (Nat.le_refl _) hB)) (ownFrom_pure _ _))
theorem nodesX_own (w : World) (m B : Nat) (hB : w.heap.size ≤ B) (c : Code) : OwnFrom B (NodesX w m c) := fun s X Y row hs hg hr => by
  rcases hs with h | h
  · have hO : OwnFrom B (fun (pre : List (Int × Nd)) W => ((∃ v, Boxed W (w.heap.size + 1) 49 v ∧ W.ownsRow (w.heap.size + 1 + 1 + 1) 34 7 v pre.length (nds (pre.map (·.2))) ∧ v ≠ .slice none 0 0) ∧ Boxed W (w.heap.size + 1 + 1) 4 (.bool true)) ∧ ((c = .ret ∧ pre.length = m) ∧ Below w.heap.size w W)) :=
      OwnFrom.and (OwnFrom.and (Own.from (holdsRow_own (w.heap.size + 1 + 1 + 1) (w.heap.size + 1) 49 34 7 (fun pre : List (Int × Nd) => pre.length) (fun pre => nds (pre.map (·.2))) (fun _ v => v ≠ .slice none 0 0)) _) (Own.from (boxed_own _ _ _) _)) (OwnFrom.and (ownFrom_pure _ _) (ownFrom_below (Nat.le_refl _) hB))
    exact .inl (hO s X Y row h hg hr)
  · exact .inr h

set_option maxRecDepth 100000 in
set_option maxHeartbeats 4000000 in
theorem nodes_some (b lim : Nat) (A : Option Addr) (c : Nat) (xs : List Nd) (m : Nat) (w : World) (hA : Ar w b lim A c xs) (hm : 0 < m) (hm2 : m ≤ 9223372036854775807) :
    Calls Try.prog 18 #[.pointer (some ⟨b, 0, none⟩), .int .i64 m] w (NodesPost w (xs.take m)) := by
  obtain ⟨i0, hi, hz0, hz1, hz2⟩ := info_parts infoNd
  have hd : decide (m = 0) = false := by simp; omega
  have hb := hA.lt
  have hfit := hA.fits
  have htop := hA.top
  have HG := Lib.hid (show ∀ g, (Value.slice A xs.length c).ownBlock = some g → g < w.heap.size from fun g e => (hA.own.lt g e).2)
  refine (callsIn_wide (n := 3)).1 ?_
  refine callsIn_of_wp_marks Try.func18 rfl trivial ?_ rfl
  simp only [Try.ntmps18, List.size_toArray, List.length_cons, List.length_nil, Nat.reduceAdd, Nat.reduceSub, Array.replicate_succ, Array.replicate_zero, List.push_toArray, List.append_toArray, List.nil_append, List.cons_append]
  gi_wp2
  have bM := ((((Boxed.new w 3 (.int .i64 m)).alloc (.cells #[.slice none 0 0] 49)).alloc (.cells #[.bool false] 4)).alloc (.cells #[] 34)).alloc (.cells #[.slice (some ⟨w.heap.size + 1 + 1 + 1, 0, none⟩) 0 0] 49)
  have bR := (((Boxed.new (w.alloc (.cells #[.int .i64 m] 3)) 49 (.slice none 0 0)).alloc (.cells #[.bool false] 4)).alloc (.cells #[] 34)).alloc (.cells #[.slice (some ⟨w.heap.size + 1 + 1 + 1, 0, none⟩) 0 0] 49)
  have bT := ((Boxed.new ((w.alloc (.cells #[.int .i64 m] 3)).alloc (.cells #[.slice none 0 0] 49)) 4 (.bool false)).alloc (.cells #[] 34)).alloc (.cells #[.slice (some ⟨w.heap.size + 1 + 1 + 1, 0, none⟩) 0 0] 49)
  have oR := (World.ownsRow_made (base := w.heap.size + 1 + 1 + 1) (e := 34) (size := 7) (((w.alloc (.cells #[.int .i64 m] 3)).alloc (.cells #[.slice none 0 0] 49)).alloc (.cells #[.bool false] 4)) #[] 0 (by simp) (by simp) rfl).alloc (.cells #[.slice (some ⟨w.heap.size + 1 + 1 + 1, 0, none⟩) 0 0] 49)
  have bO := Boxed.new ((((w.alloc (.cells #[.int .i64 m] 3)).alloc (.cells #[.slice none 0 0] 49)).alloc (.cells #[.bool false] 4)).alloc (.cells #[] 34)) 49 (.slice (some ⟨w.heap.size + 1 + 1 + 1, 0, none⟩) 0 0)
  simp only [World.size_alloc] at bR bT oR bO
  have hB0 : Keep w (((((w.alloc (.cells #[.int .i64 m] 3)).alloc (.cells #[.slice none 0 0] 49)).alloc (.cells #[.bool false] 4)).alloc (.cells #[] 34)).alloc (.cells #[.slice (some ⟨w.heap.size + 1 + 1 + 1, 0, none⟩) 0 0] 49)) := (((((Keep.refl w).alloc _).alloc _).alloc _).alloc _).alloc _
  have hs0 : (((((w.alloc (.cells #[.int .i64 m] 3)).alloc (.cells #[.slice none 0 0] 49)).alloc (.cells #[.bool false] 4)).alloc (.cells #[] 34)).alloc (.cells #[.slice (some ⟨w.heap.size + 1 + 1 + 1, 0, none⟩) 0 0] 49)).heap.size = w.heap.size + 1 + 1 + 1 + 1 + 1 := by simp
  generalize (((((w.alloc (.cells #[.int .i64 m] 3)).alloc (.cells #[.slice none 0 0] 49)).alloc (.cells #[.bool false] 4)).alloc (.cells #[] 34)).alloc (.cells #[.slice (some ⟨w.heap.size + 1 + 1 + 1, 0, none⟩) 0 0] 49)) = W0 at *
  refine ⟨trivial, (all_in _ _ W0 ⟨b, rfl⟩).mono ?_⟩
  rintro e w1 ⟨rfl, hw1⟩
  have bA1 : Boxed w1 (w.heap.size + 1 + 1 + 1 + 1 + 1) 24 (.pointer (some ⟨b, 0, none⟩)) := by rw [hw1, ← hs0]; exact Boxed.new W0 _ _
  have hs1 : w1.heap.size = w.heap.size + 1 + 1 + 1 + 1 + 1 + 1 := by rw [hw1]; simp [hs0]
  have bM1 := bM.alloc (.cells #[.pointer (some ⟨b, 0, none⟩)] 24)
  have bR1 := bR.alloc (.cells #[.pointer (some ⟨b, 0, none⟩)] 24)
  have bT1 := bT.alloc (.cells #[.pointer (some ⟨b, 0, none⟩)] 24)
  have bO1 := bO.alloc (.cells #[.pointer (some ⟨b, 0, none⟩)] 24)
  have oR1 := oR.alloc (.cells #[.pointer (some ⟨b, 0, none⟩)] 24)
  have hB1 := hB0.alloc (.cells #[.pointer (some ⟨b, 0, none⟩)] 24)
  rw [← hw1] at bM1 bR1 bT1 bO1 oR1 hB1
  rw [hs0]
  have HS1 := Lib.hid hs1
  have hle1 : w.heap.size + 1 + 1 + 1 + 1 + 1 < w1.heap.size := by omega
  have HA1 := Lib.hid (hA.keep hB1)
  clear bM bR bT bO oR hB0 hs0 hw1 hs1
  gi_wp2
  refine wpIn_rangeFunc_ownH rfl (by omega) (gf := 35) (lb := #[.pointer (some ⟨w.heap.size + 1 + 1 + 1 + 1 + 1, 0, none⟩)]) rfl trivial (enters_of Try.func35 (by kernel_rfl) rfl)
    (all_stops _ (by omega) (w.heap.size + 1 + 1 + 1 + 1 + 1) w.heap.size b lim A c xs w1 hle1 (by omega) hb HG.out HA1.out bA1.cell) (fun h k => h.trans k) (KpB.put (by omega) hle1) (Below.refl _ _) (fun _ => rfl)
    (NodesI w b m) (NodesX w m) (nodesI_own w b m _ (by omega)) (fun c => nodesX_own w m _ (by omega) c)
    ⟨⟨⟨⟨_, bO1, oR1, by simp⟩, bM1⟩, bR1, bT1⟩, ⟨bA1, hB1⟩, hm, okN.nil⟩
    (fun x a' W => ∃ p, NdAt W p x.2 ∧ w.heap.size + 1 + 1 + 1 + 1 + 1 < p ∧ a' = { tmps := #[.pointer (some ⟨b, 0, none⟩), .int .i64 m, undef, .pointer (some ⟨w.heap.size, 0, none⟩), .pointer (some ⟨w.heap.size + 1, 0, none⟩), .pointer (some ⟨w.heap.size + 1 + 1, 0, none⟩), .pointer (some ⟨w.heap.size + 1 + 1 + 1 + 1, 0, none⟩), .int .i32 x.1, .pointer (some ⟨p, 0, none⟩), .slice (some ⟨w.heap.size + 1 + 1 + 1, 0, none⟩) 0 0, .int .i64 m, .bool false, undef, .pointer (some ⟨b, 0, none⟩), .func (.func 35) #[] #[.pointer (some ⟨w.heap.size + 1 + 1 + 1 + 1 + 1, 0, none⟩)], .int .i32 x.1, .agg #[.int .i32 x.2.l, .int .i32 x.2.r, .int .i64 x.2.c, .int .i64 x.2.s, .int .i64 x.2.mn, .int .i64 x.2.mx, .bool x.2.k], undef, undef, undef, undef, undef, undef, undef, undef, undef, undef, undef, undef, undef, undef, undef, undef], defers := [] })
    (fun x a' _ X Y row hs hg hr => by obtain ⟨p, h1, h2, h3⟩ := hs; exact ⟨p, ndat_own (β := Unit) w1.heap.size p x.2 () X Y row h1 hg hr, h2, h3⟩)
    ?assign ?body ?done ?stop
  case assign =>
    rintro l pre x W K ⟨⟨⟨⟨v, hv, hrow, hnn⟩, bM2⟩, bR2, bT2⟩, ⟨bA2, hB2⟩, hpm, hpn⟩ hK
    clear bM1 bR1 bT1 bO1 oR1 bA1
    have hsB := hB2.size
    have hAl := bA2.lt
    have HPN := Lib.hid hpn
    clear hpn
    gi_wp2
    exact hK _ _ ((KeepsOthers.alloc _ _).from _) ⟨(Below.refl _ W).alloc (by omega) _, Below.heap_alloc W _ _ hAl⟩ ⟨⟨⟨⟨v, hv.alloc _, hrow.alloc _, hnn⟩, bM2.alloc _⟩, bR2.alloc _, bT2.alloc _⟩, ⟨bA2.alloc _, hB2.alloc (by omega) _⟩, hpm, HPN.out⟩ ⟨W.heap.size, NdAt.new W x.2, by omega, rfl⟩
  case body =>
    rintro l pre x a' W hl hr ⟨⟨⟨⟨v, hv, hrow, hnn⟩, bM2⟩, bR2, bT2⟩, ⟨bA2, hB2⟩, hpm, hpn⟩ ⟨p, hN, hp, rfl⟩ hlt
    clear bM1 bR1 bT1 bO1 oR1 bA1 hr
    obtain ⟨va, vc, rfl⟩ : ∃ a c, v = .slice a pre.length c := by
      rcases hrow.2 with ⟨rfl, h0⟩ | ⟨g, cap, cur, rfl, _⟩
      · exact absurd rfl hnn
      · exact ⟨_, _, rfl⟩
    have HPN := Lib.hid hpn
    have HNN := Lib.hid hnn
    clear hpn hnn
    have hc := hv.cell
    have hsB := hB2.size
    have hml : pre.length + 1 ≤ maxLen := by unfold maxLen; omega
    have hw3 : w.heap.size + 1 + 1 + 1 ≤ W.heap.size := by have := hv.lt; omega
    have hle : ∀ X : World, Below (w.heap.size + 1 + 1 + 1) W X → Below w.heap.size W X := fun X h => h.mono (by omega)
    have Hle := Lib.hid hle
    clear hle
    obtain ⟨d0, d1, d2, d3, d4, d5, d6⟩ := hN.cells
    by_cases hx : wrap64 x.1 = (pre.length : Int) + 1
    · have hne : (wrap64 x.1 != (pre.length : Int) + 1) = false := by rw [bne_eq_false_iff_eq]; exact hx
      have HX := Lib.hid hx
      clear hx
      by_cases hfull : pre.length + 1 = m
      · have htest : (((pre.length : Int) + 1) == (m : Int)) = true := by rw [beq_iff_eq]; omega
        have HF := Lib.hid hfull
        clear hfull
        gi_wp2_with (gi_at_builtin; refine wpListIn_append_own _ rfl _ _ 49 rfl (w.heap.size + 1 + 1 + 1) 34 i0 (.agg #[.int .i32 0, .int .i32 0, .int .i64 0, .int .i64 0, .int .i64 0, .int .i64 0, .bool false]) 7 48 Try.underlying49 hi hz0 hz1 hz2 rfl (by decide) _ _ _ rfl (hrow.alloc _) ⟨W.heap.size, 0, none⟩ 1 1 (ndc x.2) rfl rfl (NdAt.new W x.2).news (nds_single x.2 ▸ nds_one [x.2]) (by omega) (by omega) (by simp; omega) ?_; intro v' w3 hown' hgrow _; obtain ⟨g', cap', rfl⟩ := ownsRow_succ hown'; obtain ⟨hv1, hv2, hr2, hk2, hb2⟩ := hv.appended (by decide) hrow hw3 (by omega) hown' hgrow; have hc1 := hv1.cell; have hf1 := hv1.frozen; have hm1 := Boxed.kept_row bM2 (by omega) hrow hgrow; have hr1 := Boxed.kept_row bR2 (by omega) hrow hgrow; have ht1 := Boxed.kept_row bT2 (by omega) hrow hgrow; have ha1 := Boxed.kept_ty bA2 (by decide) hrow hgrow; have hmc := hm1.cell; have hrc := hr1.cell; have hrf := hr1.frozen; have htc := ht1.cell; have htf := ht1.frozen)
        have hg' := (hr2.lt g' rfl).1
        refine ⟨((hk2.trans (KeepsOthers.setCell _ _ _)).trans (KeepsOthers.setCell _ _ _)).from _, .inl ⟨⟨⟨_, ((hr1.other (by omega) _).set _).other (by omega) _, ?_, by simp⟩, ((ht1.other (by omega) _).other (by omega) _).set _⟩, ⟨rfl, by have := HF.out; simp; omega⟩, ?_⟩⟩
        · rw [List.map_append, nds_append]
          simpa [nds_single] using (hr2.kept (grownBy_setCell' _ (w.heap.size + 1) _) (.inr (by simp [Value.ownBlock]; omega))).kept (grownBy_setCell' _ (w.heap.size + 1 + 1) _) (.inr (by simp [Value.ownBlock]; omega))
        · exact ((hB2.trans (Hle.out _ hb2)).setCell (p := ⟨w.heap.size + 1, 0, none⟩) (show w.heap.size ≤ w.heap.size + 1 by omega) _).setCell (p := ⟨w.heap.size + 1 + 1, 0, none⟩) (show w.heap.size ≤ w.heap.size + 1 + 1 by omega) _
      · have htest : (((pre.length : Int) + 1) == (m : Int)) = false := by rw [beq_eq_false_iff_ne]; omega
        gi_wp2_with (gi_at_builtin; refine wpListIn_append_own _ rfl _ _ 49 rfl (w.heap.size + 1 + 1 + 1) 34 i0 (.agg #[.int .i32 0, .int .i32 0, .int .i64 0, .int .i64 0, .int .i64 0, .int .i64 0, .bool false]) 7 48 Try.underlying49 hi hz0 hz1 hz2 rfl (by decide) _ _ _ rfl (hrow.alloc _) ⟨W.heap.size, 0, none⟩ 1 1 (ndc x.2) rfl rfl (NdAt.new W x.2).news (nds_single x.2 ▸ nds_one [x.2]) (by omega) (by omega) (by simp; omega) ?_; intro v' w3 hown' hgrow _; obtain ⟨g', cap', rfl⟩ := ownsRow_succ hown'; obtain ⟨hv1, hv2, hr2, hk2, hb2⟩ := hv.appended (by decide) hrow hw3 (by omega) hown' hgrow; have hc1 := hv1.cell; have hf1 := hv1.frozen; have hm1 := Boxed.kept_row bM2 (by omega) hrow hgrow; have hr1 := Boxed.kept_row bR2 (by omega) hrow hgrow; have ht1 := Boxed.kept_row bT2 (by omega) hrow hgrow; have ha1 := Boxed.kept_ty bA2 (by decide) hrow hgrow; have hmc := hm1.cell)
        have hA3 := ha1.other (B' := w.heap.size + 1 + 1 + 1 + 1) (by omega) (.slice (some ⟨g', 0, none⟩) (pre.length + 1) cap')
        have hbA : (w3.setCell ⟨w.heap.size + 1 + 1 + 1 + 1, 0, none⟩ (.slice (some ⟨g', 0, none⟩) (pre.length + 1) cap')).heap[w.heap.size + 1 + 1 + 1 + 1 + 1]? = W.heap[w.heap.size + 1 + 1 + 1 + 1 + 1]? := Eq.trans hA3 (Eq.symm bA2)
        refine ⟨hk2.from _, ⟨Hle.out _ hb2, hbA⟩, ⟨⟨⟨⟨_, hv2, ?_, by simp⟩, hm1.other (by omega) _⟩, hr1.other (by omega) _, ht1.other (by omega) _⟩, ⟨hA3, hB2.trans (Hle.out _ hb2)⟩, by simp; omega, HPN.out.snoc HX.out⟩⟩
        rw [List.map_append, nds_append]
        simpa [nds_single] using hr2
    · have hne : (wrap64 x.1 != (pre.length : Int) + 1) = true := by rw [bne_iff_ne]; exact hx
      have hrc := bR2.cell
      have hrf := bR2.frozen
      have htc := bT2.cell
      have htf := bT2.frozen
      have HX := Lib.hid hx
      clear hx
      gi_wp2
      exact ⟨((KeepsOthers.setCell _ _ _).trans (KeepsOthers.setCell _ _ _)).from _, .inr ⟨rfl, okN.not HX.out⟩⟩
  case done =>
    rintro D ys W hD rfl ⟨⟨⟨⟨v, hv, hrow, hnn⟩, bM2⟩, bR2, bT2⟩, ⟨bA2, hB2⟩, hpm, -⟩ hK
    rw [nums_snd] at hrow
    rw [nums_length] at hrow hpm
    clear bM1 bR1 bT1 bO1 oR1 bA1 bM2 bA2
    have htk : xs.take m = xs := List.take_of_length_le (by omega)
    have HTK := Lib.hid htk
    obtain ⟨va, vc, rfl⟩ : ∃ a c, v = .slice a xs.length c := by
      rcases hrow.2 with ⟨rfl, h0⟩ | ⟨g, cap, cur, rfl, _⟩
      · exact absurd rfl hnn
      · exact ⟨_, _, rfl⟩
    clear htk hnn
    have hc := hv.cell
    have hrc := bR2.cell
    have hrf := bR2.frozen
    have htc := bT2.cell
    have htf := bT2.frozen
    have hlD := HS1.out
    gi_wp2
    have bX := ((bR2.set (.slice va xs.length vc)).other (B' := w.heap.size + 1 + 1) (by omega) (.bool true))
    have bY := ((bT2.other (B' := w.heap.size + 1) (by omega) (.slice va xs.length vc)).set (.bool true))
    have hK' := (KeepsOthers.setCell (W.setCell ⟨w.heap.size + 1, 0, none⟩ (.slice va xs.length vc)) ⟨w.heap.size + 1 + 1, 0, none⟩ (.bool true)).same D _ ((KeepsOthers.setCell W ⟨w.heap.size + 1, 0, none⟩ (.slice va xs.length vc)).same D _ hK rfl) rfl
    have hr5 : ((W.setCell ⟨w.heap.size + 1, 0, none⟩ (.slice va xs.length vc)).setCell ⟨w.heap.size + 1 + 1, 0, none⟩ (.bool true)).ownsRow (w.heap.size + 1 + 1 + 1) 34 7 (.slice va xs.length vc) xs.length (nds xs) := by
      refine (hrow.kept (grownBy_setCell' _ (w.heap.size + 1) _) (.inr (fun e => ?_))).kept (grownBy_setCell' _ (w.heap.size + 1 + 1) _) (.inr (fun e => ?_))
      · have := (hrow.lt _ e).1; omega
      · have := (hrow.lt _ e).1; omega
    have hB5 := (hB2.setCell (p := ⟨w.heap.size + 1, 0, none⟩) (show w.heap.size ≤ w.heap.size + 1 by omega) (.slice va xs.length vc)).setCell (p := ⟨w.heap.size + 1 + 1, 0, none⟩) (show w.heap.size ≤ w.heap.size + 1 + 1 by omega) (.bool true)
    generalize (W.setCell ⟨w.heap.size + 1, 0, none⟩ (.slice va xs.length vc)).setCell ⟨w.heap.size + 1 + 1, 0, none⟩ (.bool true) = W5 at *
    refine ⟨by simp, .inl ⟨_, _, rfl, run_takeDeferred hK', ?_⟩⟩
    have hc5 := cell_kept bX.cell (grownBy_putObj' _ D (.deferred none)) (fun r e => by cases e; exact ⟨_, hK', rfl⟩)
    have hc6 := cell_kept bY.cell (grownBy_putObj' _ D (.deferred none)) (fun r e => by cases e; exact ⟨_, hK', rfl⟩)
    refine ⟨.tuple #[.slice va xs.length vc, .bool true], ?_, ?_⟩
    · simp [results, Try.f18, go_sem, hc5, hc6]
    · rw [HTK.out]
      exact ⟨va, vc, rfl, ownsRow_le (base := w.heap.size + 1 + 1 + 1) (base' := w.heap.size) (ownsRow_putObj hr5 _ hK' rfl) (Nat.le_add_right w.heap.size 3), hB5.trans (belowK_b (w := w) (Nat.le_refl _) _ D _ _ (by omega) hK' rfl rfl)⟩
  case stop =>
    rintro D c pre W hD hpre hX hK
    obtain ⟨hno, hmap⟩ := nums_prefix hpre (by omega)
    rcases hX with ⟨⟨⟨v, hv, hrow, hnn⟩, bT2⟩, ⟨rfl, hlen⟩, hB2⟩ | ⟨_, hbad⟩
    · rw [hmap, hlen] at hrow
      have hlm : (xs.take m).length = m := by rw [← hlen, ← hmap, List.length_map]
      rw [← hlm] at hrow
      have hrow' : W.ownsRow (w.heap.size + 1 + 1 + 1) 34 7 v (xs.take m).length (nds (xs.take m)) := by rw [hlm] at hrow ⊢; exact hrow
      clear hrow hlm hmap hno hpre hlen
      generalize xs.take m = ys at *
      obtain ⟨va, vc, rfl⟩ : ∃ a c, v = .slice a ys.length c := by
        rcases hrow'.2 with ⟨rfl, h0⟩ | ⟨g, cap, cur, rfl, _⟩
        · exact absurd rfl hnn
        · exact ⟨_, _, rfl⟩
      clear bM1 bR1 bT1 bO1 oR1 bA1 hnn
      have hlD := HS1.out
      gi_wp2
      have hc5 := cell_kept hv.cell (grownBy_putObj' _ D (.deferred none)) (fun r e => by cases e; exact ⟨_, hK, rfl⟩)
      have hc6 := cell_kept bT2.cell (grownBy_putObj' _ D (.deferred none)) (fun r e => by cases e; exact ⟨_, hK, rfl⟩)
      refine ⟨by simp, .inl ⟨_, _, rfl, run_takeDeferred hK, ?_⟩⟩
      refine ⟨.tuple #[.slice va ys.length vc, .bool true], ?_, va, vc, rfl, ownsRow_le (ownsRow_putObj hrow' _ hK rfl) (by omega), hB2.trans (belowK_b (w := w) (Nat.le_refl _) _ D _ _ (by omega) hK rfl rfl)⟩
      simp [results, Try.f18, go_sem, hc5, hc6]
    · exact absurd hno hbad

set_option maxRecDepth 100000 in
set_option maxHeartbeats 1000000 in
theorem nodes_zero (b : Nat) (w : World) :
    Calls Try.prog 18 #[.pointer (some ⟨b, 0, none⟩), .int .i64 0] w (NodesPost w []) := by
  refine (callsIn_wide (n := 3)).1 ?_
  refine callsIn_of_wp_marks Try.func18 rfl trivial ?_ rfl
  simp only [Try.ntmps18, List.size_toArray, List.length_cons, List.length_nil, Nat.reduceAdd, Nat.reduceSub, Array.replicate_succ, Array.replicate_zero, List.push_toArray, List.append_toArray, List.nil_append, List.cons_append]
  gi_wp2
  have hk : Keep w (((((w.alloc (.cells #[.int .i64 0] 3)).alloc (.cells #[.slice (some ⟨w.heap.size + 1 + 1 + 1, 0, none⟩) 0 0] 49)).alloc (.cells #[.bool true] 4)).alloc (.cells #[] 34)).alloc (.cells #[.slice (some ⟨w.heap.size + 1 + 1 + 1, 0, none⟩) 0 0] 49)) := (((((Keep.refl w).alloc _).alloc _).alloc _).alloc _).alloc _
  have oR := (World.ownsRow_made (base := w.heap.size + 1 + 1 + 1) (e := 34) (size := 7) (((w.alloc (.cells #[.int .i64 0] 3)).alloc (.cells #[.slice (some ⟨w.heap.size + 1 + 1 + 1, 0, none⟩) 0 0] 49)).alloc (.cells #[.bool true] 4)) #[] 0 (by simp) (by simp) rfl).alloc (.cells #[.slice (some ⟨w.heap.size + 1 + 1 + 1, 0, none⟩) 0 0] 49)
  have bR := (((Boxed.new (w.alloc (.cells #[.int .i64 0] 3)) 49 (.slice (some ⟨w.heap.size + 1 + 1 + 1, 0, none⟩) 0 0)).alloc (.cells #[.bool true] 4)).alloc (.cells #[] 34)).alloc (.cells #[.slice (some ⟨w.heap.size + 1 + 1 + 1, 0, none⟩) 0 0] 49)
  have bT := ((Boxed.new ((w.alloc (.cells #[.int .i64 0] 3)).alloc (.cells #[.slice (some ⟨w.heap.size + 1 + 1 + 1, 0, none⟩) 0 0] 49)) 4 (.bool true)).alloc (.cells #[] 34)).alloc (.cells #[.slice (some ⟨w.heap.size + 1 + 1 + 1, 0, none⟩) 0 0] 49)
  simp only [World.size_alloc] at oR bR bT
  generalize (((((w.alloc (.cells #[.int .i64 0] 3)).alloc (.cells #[.slice (some ⟨w.heap.size + 1 + 1 + 1, 0, none⟩) 0 0] 49)).alloc (.cells #[.bool true] 4)).alloc (.cells #[] 34)).alloc (.cells #[.slice (some ⟨w.heap.size + 1 + 1 + 1, 0, none⟩) 0 0] 49)) = W5 at *
  have hc5 := bR.cell
  have hc6 := bT.cell
  refine ⟨.tuple #[.slice (some ⟨w.heap.size + 1 + 1 + 1, 0, none⟩) 0 0, .bool true], ?_, some ⟨w.heap.size + 1 + 1 + 1, 0, none⟩, 0, rfl, ownsRow_le (base := w.heap.size + 1 + 1 + 1) (base' := w.heap.size) oR (Nat.le_add_right w.heap.size 3), hk⟩
  simp [results, Try.f18, go_sem, hc5, hc6]
theorem nodes_any (b lim : Nat) (A : Option Addr) (c : Nat) (xs : List Nd) (m : Nat) (w : World) (hA : Ar w b lim A c xs) (hm2 : m ≤ 9223372036854775807) :
    Calls Try.prog 18 #[.pointer (some ⟨b, 0, none⟩), .int .i64 m] w (NodesPost w (xs.take m)) := by
  rcases Nat.eq_zero_or_pos m with rfl | hm
  · exact nodes_zero b w
  · exact nodes_some b lim A c xs m w hA hm hm2
end Go.Proofs.Ytdnhgfbchddabab
