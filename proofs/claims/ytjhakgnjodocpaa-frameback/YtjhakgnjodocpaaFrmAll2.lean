/- The law's own all: as many bodies as are asked for, and are there. -/
import Derived.Test.YtjhakgnjodocpaaFrmAll
namespace Go.Proofs.Ytjhakgnjodocpaa
open Go.RowKit Go.Shelf
attribute [local go_sem] Oper.semAt_some

theorem Boxed.kept_row {W w1 : World} {n₀ B : Nat} {t e : TypeId} {u v : Value} {size k : Nat} {xs : List Value} {tmp : Obj} (hb : Boxed W B t u) (hB : B < n₀) (hrow : W.ownsRow n₀ e size v k xs)
    (hgrow : (W.alloc tmp).grownBy w1 v.ownBlock) : Boxed w1 B t u := (hb.alloc tmp).kept hgrow (fun e => by have := hrow.lt B e.symm; omega)
def rowOf (l : List SV) : List Value := l.map fun x => Value.slice x.1 x.2.1 x.2.2
theorem rowOf_snoc (l : List SV) (x : SV) : rowOf (l ++ [x]) = rowOf l ++ [.slice x.1 x.2.1 x.2.2] := by simp [rowOf]

/-- The blocks of Pr hold bytes. -/
def Prot (Pr : Nat → Prop) (W : World) : Prop := ∀ q, Pr q → ∃ cs fr, W.heap[q]? = some (.cells cs 5 fr)
theorem prot_own {β : Type} (B : Nat) (Pr : Nat → Prop) : OwnFrom B (fun (_ : β) W => Prot Pr W) := fun _ X Y row hs hg hr q hq => by
  obtain ⟨cs, fr, hc⟩ := hs q hq
  refine ⟨cs, fr, (hg.block q (Array.getElem?_eq_some_iff.1 hc).1 (fun e => ?_)).trans hc⟩
  obtain ⟨o, ho, hcl⟩ := (hr q e.symm).2
  rw [hc] at ho
  cases ho
  cases hcl
theorem prot_box {Pr : Nat → Prop} {W : World} (h : Prot Pr W) {b : Nat} {t : TypeId} {v : Value} (hb : Boxed W b t v) (ht : t ≠ 5) : ¬ Pr b := fun hq => by
  obtain ⟨cs, fr, hc⟩ := h b hq
  have : W.heap[b]? = _ := hb
  rw [hc] at this
  injection this with this
  injection this with _ this
  exact ht this.symm
theorem prot_row {Pr : Nat → Prop} {W : World} (h : Prot Pr W) {base n : Nat} {v : Value} {xs : List Value} (hr : W.ownsRow base 22 1 v n xs) (q : Nat) (hq : v.ownBlock = some q) : ¬ Pr q := fun hp => by
  obtain ⟨cs, fr, hc⟩ := h q hp
  obtain ⟨cs', hc'⟩ := row_type hr q hq
  rw [hc] at hc'
  injection hc' with this
  injection this with _ this
  cases this
theorem Prot.only {Pr : Nat → Prop} {W W' : World} (h : Prot Pr W) (ho : Only (fun q => ¬ Pr q) W W') : Prot Pr W' := fun q hq => by
  obtain ⟨cs, fr, hc⟩ := h q hq
  exact ⟨cs, fr, (ho.block q (Array.getElem?_eq_some_iff.1 hc).1 (fun hn => hn hq)).trans hc⟩
theorem onlyK_b {Pr : Nat → Prop} {w : World} (hp : ∀ q, Pr q → q < w.heap.size) (W : World) (l : Nat) (o o' : Obj) (hl : w.heap.size ≤ l) (_ : W.heap[l]? = some o) (_ : o.isCells = false) (_ : o.isWalk = false) : Only (fun q => ¬ Pr q) W (W.putObj l o') :=
  (Only.refl _ W).grown (grownBy_putObj' W l o') (fun k _ e hq => by cases e; have := hp l hq; omega)

/-- What all answers: a row of so many slices. -/
def Alls (w : World) (k : Nat) (e : Ending) (w' : World) : Prop := ∃ (v : Value) (ys : List SV), e = .returned v ∧ ys.length = k ∧ w'.ownsRow w.heap.size 22 1 v k (rowOf ys) ∧ Keep w w'

set_option maxRecDepth 100000 in
set_option maxHeartbeats 2000000 in
theorem lall_any (A : Option Addr) (n c : Nat) (m : Nat) (xs : List Int) (w : World) (B : Nat) (hB : B ≤ w.heap.size) (hy : By w B A n c xs) (hby : Byt xs) (hn : n ≤ 100000) (hm : 0 < m) (hm2 : m ≤ 9223372036854775807) :
    Calls Try.prog 16 #[.slice A n c, .int .i64 m] w (Alls w (min m (spl xs).1.length)) := by
  obtain ⟨i0, hi, hz0, hz1, hz2⟩ := info_parts infoBytes
  have hd : decide (m = 0) = false := by simp; omega
  have hcnt := (spl_count n xs (by have := hy.len; omega)).1
  have hxl := hy.len
  refine (callsIn_wide (n := 3)).1 ?_
  refine callsIn_of_wp_marks Try.func16 rfl trivial ?_ rfl
  simp only [Try.ntmps16, List.size_toArray, List.length_cons, List.length_nil, Nat.reduceAdd, Nat.reduceSub, Array.replicate_succ, Array.replicate_zero, List.push_toArray, List.append_toArray, List.nil_append, List.cons_append]
  gi_wp2
  have bM := (((Boxed.new w 3 (.int .i64 m)).alloc (.cells #[.slice none 0 0] 29)).alloc (.cells #[] 22)).alloc (.cells #[.slice (some ⟨w.heap.size + 1 + 1, 0, none⟩) 0 0] 29)
  have bR := ((Boxed.new (w.alloc (.cells #[.int .i64 m] 3)) 29 (.slice none 0 0)).alloc (.cells #[] 22)).alloc (.cells #[.slice (some ⟨w.heap.size + 1 + 1, 0, none⟩) 0 0] 29)
  have oR := ((World.ownsRow_made (base := w.heap.size + 1 + 1) (e := 22) (size := 1) ((w.alloc (.cells #[.int .i64 m] 3)).alloc (.cells #[.slice none 0 0] 29)) #[] 0 (by simp) (by simp) rfl).alloc (.cells #[.slice (some ⟨w.heap.size + 1 + 1, 0, none⟩) 0 0] 29))
  have bO := (Boxed.new (((w.alloc (.cells #[.int .i64 m] 3)).alloc (.cells #[.slice none 0 0] 29)).alloc (.cells #[] 22)) 29 (.slice (some ⟨w.heap.size + 1 + 1, 0, none⟩) 0 0))
  simp only [World.size_alloc] at bR oR bO
  have hB0 : Keep w ((((w.alloc (.cells #[.int .i64 m] 3)).alloc (.cells #[.slice none 0 0] 29)).alloc (.cells #[] 22)).alloc (.cells #[.slice (some ⟨w.heap.size + 1 + 1, 0, none⟩) 0 0] 29)) := ((((Keep.refl w).alloc _).alloc _).alloc _).alloc _
  have hy0 := hy.keep hB0 hB
  have hBs := Nat.le_trans hB hB0.size
  generalize (((w.alloc (.cells #[.int .i64 m] 3)).alloc (.cells #[.slice none 0 0] 29)).alloc (.cells #[] 22)).alloc (.cells #[.slice (some ⟨w.heap.size + 1 + 1, 0, none⟩) 0 0] 29) = W0 at *
  refine ⟨trivial, (callsIn_wide.2 (all_in A n c xs W0 B hBs hy0 hn)).mono ?_⟩
  rintro e w1 ⟨bx, Ax, cx, rfl, hbx, hyx, hsz, hty, hk1⟩
  have bM1 : Boxed w1 _ _ _ := (hk1.block _ bM.lt).trans bM
  have bR1 : Boxed w1 _ _ _ := (hk1.block _ bR.lt).trans bR
  have bO1 : Boxed w1 _ _ _ := (hk1.block _ bO.lt).trans bO
  have oR1 := row_keep oR hk1
  have hB1 := hB0.trans hk1
  have hlO := bO1.lt
  have hlx := hB1.size
  obtain ⟨Pr, hPr⟩ : ∃ Pr : Nat → Prop, Pr = fun q => ∃ ad, Ax = some ad ∧ q = ad.block := ⟨_, rfl⟩
  have hPA : ∀ ad, Ax = some ad → Pr ad.block := fun ad h => by rw [hPr]; exact ⟨ad, h, rfl⟩
  have hprot : Prot Pr w1 := fun q hq => by
    rw [hPr] at hq
    obtain ⟨ad, h, rfl⟩ := hq
    exact hty ad h
  have hplt : ∀ q, Pr q → q < w1.heap.size := fun q hq => by
    obtain ⟨cs, fr, hc⟩ := hprot q hq
    exact (Array.getElem?_eq_some_iff.1 hc).1
  have HPL := Lib.hid hplt
  clear bM bR bO oR hB0 hy0 hk1 hty hPr hplt
  gi_wp2
  refine wpIn_rangeFunc_ownG rfl (by omega) (gf := 32) (lb := #[.pointer (some ⟨bx, 0, none⟩)]) rfl trivial (enters_of Try.func32 (by kernel_rfl) rfl)
    (all_stops _ (by omega) Pr bx Ax n cx xs bx hPA hn w1 (by omega) hbx hyx hby) (fun h k => h.trans k (fun _ _ t => t)) (onlyK_b HPL.out) (Below.refl _ _) (fun _ => rfl)
    (fun pre W => (((∃ v, Boxed W (w.heap.size + 1 + 1 + 1) 29 v ∧ W.ownsRow (w.heap.size + 1 + 1) 22 1 v pre.length (rowOf pre) ∧ v ≠ .slice none 0 0) ∧ Boxed W w.heap.size 3 (.int .i64 m)) ∧ (Boxed W (w.heap.size + 1) 29 (.slice none 0 0) ∧ pre.length < m)) ∧ (Below w.heap.size w W ∧ Prot Pr W))
    (fun c pre W => ((∃ v, Boxed W (w.heap.size + 1) 29 v ∧ W.ownsRow (w.heap.size + 1 + 1) 22 1 v pre.length (rowOf pre) ∧ v ≠ .slice none 0 0) ∧ (c = .ret ∧ pre.length = m)) ∧ Below w.heap.size w W)
    (OwnFrom.and (OwnFrom.and (OwnFrom.and (Own.from (holdsRow_own (w.heap.size + 1 + 1) (w.heap.size + 1 + 1 + 1) 29 22 1 (fun pre => pre.length) (fun pre => rowOf pre) (fun _ v => v ≠ .slice none 0 0)) _) (Own.from (boxed_own _ _ _) _)) (OwnFrom.and (Own.from (boxed_own _ _ _) _) (ownFrom_pure _ _))) (OwnFrom.and (ownFrom_below (Nat.le_refl _) (by omega)) (prot_own _ _)))
    (fun c => OwnFrom.and (OwnFrom.and (Own.from (holdsRow_own (w.heap.size + 1 + 1) (w.heap.size + 1) 29 22 1 (fun pre => pre.length) (fun pre => rowOf pre) (fun _ v => v ≠ .slice none 0 0)) _) (ownFrom_pure _ _)) (ownFrom_below (Nat.le_refl _) (by omega)))
    ⟨⟨⟨⟨_, bO1, oR1, by simp⟩, bM1⟩, bR1, hm⟩, hB1, hprot⟩
    (fun x => { tmps := #[.slice A n c, .int .i64 m, undef, .pointer (some ⟨w.heap.size, 0, none⟩), .pointer (some ⟨w.heap.size + 1, 0, none⟩), .pointer (some ⟨w.heap.size + 1 + 1 + 1, 0, none⟩), .slice x.1 x.2.1 x.2.2, .slice (some ⟨w.heap.size + 1 + 1, 0, none⟩) 0 0, .int .i64 m, .bool false, undef, .slice A n c, .func (.func 32) #[] #[.pointer (some ⟨bx, 0, none⟩)], .slice x.1 x.2.1 x.2.2, undef, undef, undef, undef, undef, undef, undef, undef, undef, undef], defers := [] }) ?assign ?body ?done ?stop
  case assign =>
    intro l x W K hK
    gi_wp2
    exact hK
  case body =>
    rintro l pre x W ⟨⟨⟨⟨v, hv, hrow, hnn⟩, bM2⟩, bR2, hlm⟩, hB, hpr⟩ hlt
    clear hnn bO1 oR1 bM1 bR1 hB1 hprot hbx hyx
    have hc := hv.cell
    have hml : pre.length + 1 ≤ maxLen := by unfold maxLen; omega
    have hsB := hB.size
    have hw2 : w.heap.size + 1 + 1 ≤ W.heap.size := by have := hv.lt; omega
    have hle : ∀ X : World, Below (w.heap.size + 1 + 1) W X → Below w.heap.size W X := fun X h => h.mono (by omega)
    have Hle := Lib.hid hle
    have HPB := Lib.hid (prot_box hpr hv (by decide))
    have HPR := Lib.hid (fun q hq => prot_row hpr hrow q hq)
    have HPP := Lib.hid hpr
    clear hle hpr
    by_cases hfull : pre.length + 1 = m
    · have htest : (((pre.length : Int) + 1) == (m : Int)) = true := by rw [beq_iff_eq]; omega
      have HF := Lib.hid hfull
      clear hfull
      gi_wp2_with (gi_at_builtin; refine wpListIn_append_own _ rfl _ _ 29 rfl (w.heap.size + 1 + 1) 22 i0 (.slice none 0 0) 1 24 Try.underlying29 hi hz0 hz1 hz2 rfl (by decide) _ _ _ rfl (hrow.alloc _) ⟨W.heap.size, 0, none⟩ 1 1 [.slice x.1 x.2.1 x.2.2] rfl rfl (cell_one_new _ _ _) (by simp [Value.oneCell']) (by omega) (by omega) (by simp; omega) ?_; intro v' w3 hown' hgrow _; obtain ⟨g', cap', rfl⟩ := ownsRow_succ hown'; obtain ⟨hv1, hv2, hr2, hk2, hb2⟩ := hv.appended (by decide) hrow hw2 (by omega) hown' hgrow; have hc1 := hv1.cell; have hf1 := hv1.frozen; have hm1 := Boxed.kept_row bM2 (by omega) hrow hgrow; have hr1 := Boxed.kept_row bR2 (by omega) hrow hgrow; have hmc := hm1.cell; have hrc := hr1.cell; have hrf := hr1.frozen)
      have hg' := (hr2.lt g' rfl).1
      refine ⟨(hk2.trans (KeepsOthers.setCell _ _ _)).from _, ⟨⟨_, (hr1.other (by omega) _).set _, ?_, by simp⟩, rfl, by have := HF.out; simp; omega⟩, ?_⟩
      · rw [rowOf_snoc]
        simpa using hr2.kept (grownBy_setCell' _ (w.heap.size + 1) _) (.inr (by simp [Value.ownBlock]; omega))
      · exact (hB.trans (Hle.out _ hb2)).setCell (p := ⟨w.heap.size + 1, 0, none⟩) (by simp) _
    · have htest : (((pre.length : Int) + 1) == (m : Int)) = false := by rw [beq_eq_false_iff_ne]; omega
      gi_wp2_with (gi_at_builtin; refine wpListIn_append_own _ rfl _ _ 29 rfl (w.heap.size + 1 + 1) 22 i0 (.slice none 0 0) 1 24 Try.underlying29 hi hz0 hz1 hz2 rfl (by decide) _ _ _ rfl (hrow.alloc _) ⟨W.heap.size, 0, none⟩ 1 1 [.slice x.1 x.2.1 x.2.2] rfl rfl (cell_one_new _ _ _) (by simp [Value.oneCell']) (by omega) (by omega) (by simp; omega) ?_; intro v' w3 hown' hgrow _; obtain ⟨g', cap', rfl⟩ := ownsRow_succ hown'; obtain ⟨hv1, hv2, hr2, hk2, hb2⟩ := hv.appended (by decide) hrow hw2 (by omega) hown' hgrow; have hc1 := hv1.cell; have hf1 := hv1.frozen; have hm1 := Boxed.kept_row bM2 (by omega) hrow hgrow; have hr1 := Boxed.kept_row bR2 (by omega) hrow hgrow; have hmc := hm1.cell)
      have hon : Only (fun q => ¬ Pr q) W (w3.setCell ⟨w.heap.size + 1 + 1 + 1, 0, none⟩ (.slice (some ⟨g', 0, none⟩) (pre.length + 1) cap')) :=
        (((Only.refl _ W).alloc _).grown hgrow (fun k _ e => HPR.out k e)).setCell _ _ HPB.out
      exact ⟨hk2.from _, hon, ⟨⟨⟨_, hv2, by rw [rowOf_snoc]; simpa using hr2, by simp⟩, hm1.other (by omega) _⟩, hr1.other (by omega) _, by simp; omega⟩, hB.trans (Hle.out _ hb2), HPP.out.only hon⟩
  case done =>
    rintro D ys W hD hys ⟨⟨⟨⟨v, hv, hrow, hnn⟩, bM2⟩, bR2, hlm⟩, hB, -⟩ hK
    have hmin : min m (spl xs).1.length = ys.length := by omega
    have HTK := Lib.hid hmin
    clear hmin hys
    obtain ⟨a0, n0, c0, rfl⟩ : ∃ a n c, v = .slice a n c := by
      rcases hrow.2 with ⟨rfl, _⟩ | ⟨g, cap, cur, rfl, _⟩
      · exact ⟨_, _, _, rfl⟩
      · exact ⟨_, _, _, rfl⟩
    have hc := hv.cell
    have hrc := bR2.cell
    have hrf := bR2.frozen
    gi_wp2
    have hK' := (KeepsOthers.setCell W ⟨w.heap.size + 1, 0, none⟩ (.slice a0 n0 c0)).same D _ hK rfl
    refine ⟨by simp, .inl ⟨_, _, rfl, run_takeDeferred hK', ?_⟩⟩
    have hc5 := cell_kept (bR2.set (.slice a0 n0 c0)).cell (grownBy_putObj' _ D (.deferred none)) (fun r e => by cases e; exact ⟨_, hK', rfl⟩)
    have hr5 : (W.setCell ⟨w.heap.size + 1, 0, none⟩ (.slice a0 n0 c0)).ownsRow (w.heap.size + 1 + 1) 22 1 (.slice a0 n0 c0) ys.length (rowOf ys) :=
      hrow.kept (grownBy_setCell' _ (w.heap.size + 1) _) (by
        rcases a0 with _ | a
        · exact .inl rfl
        · refine .inr (fun e => ?_)
          have := (hrow.lt _ e).1
          omega)
    refine ⟨.slice a0 n0 c0, ?_, _, ys, rfl, HTK.out.symm, by rw [HTK.out]; exact ownsRow_le (ownsRow_putObj hr5 _ hK' rfl) (by omega), (hB.setCell (p := ⟨w.heap.size + 1, 0, none⟩) (by simp) _).trans (belowK_b (w := w) (Nat.le_refl _) _ D _ _ (by omega) hK' rfl rfl)⟩
    simp [results, Try.f16, go_sem, hc5]
  case stop =>
    rintro D c pre W hD hpre ⟨⟨⟨v, hv, hrow, hnn⟩, rfl, hlen⟩, hB⟩ hK
    have hmin : min m (spl xs).1.length = pre.length := by omega
    have HTK := Lib.hid hmin
    clear hmin hpre
    gi_wp2
    have hc5 := cell_kept hv.cell (grownBy_putObj' _ D (.deferred none)) (fun r e => by cases e; exact ⟨_, hK, rfl⟩)
    refine ⟨by simp, .inl ⟨_, _, rfl, run_takeDeferred hK, ?_⟩⟩
    refine ⟨v, ?_, _, pre, rfl, HTK.out.symm, by rw [HTK.out]; exact ownsRow_le (ownsRow_putObj hrow _ hK rfl) (by omega), hB.trans (belowK_b (w := w) (Nat.le_refl _) _ D _ _ (by omega) hK rfl rfl)⟩
    simp [results, Try.f16, go_sem, hc5]
end Go.Proofs.Ytjhakgnjodocpaa
