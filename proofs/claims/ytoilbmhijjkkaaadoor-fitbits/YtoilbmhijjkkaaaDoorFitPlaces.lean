/- The law's own places: up to so many places of bits that are 1, as a row of the call's own. -/
import Derived.Test.YtoilbmhijjkkaaaDoorFitSeq
namespace Go.Proofs.YtoilbmhijjkkaaaDoor
open Go.RowKit Go.Shelf
attribute [local go_sem] Oper.semAt_some

theorem infoInt : (Tryd.prog.info? 3).map (fun i => (i.zero, i.size, i.bytes)) = some (some (.int .i64 0), 1, 8) := by kernel_rfl

theorem Boxed.kept_row {W w1 : World} {n₀ B : Nat} {t e : TypeId} {u v : Value} {size k : Nat} {xs : List Value} {tmp : Obj} (hb : Boxed W B t u) (hB : B < n₀) (hrow : W.ownsRow n₀ e size v k xs)
    (hgrow : (W.alloc tmp).grownBy w1 v.ownBlock) : Boxed w1 B t u := (hb.alloc tmp).kept hgrow (fun e => by have := hrow.lt B e.symm; omega)

theorem ownsRow_le {w : World} {base base' : Nat} {e : TypeId} {size : Nat} {v : Value} {n : Nat} {xs : List Value} (h : w.ownsRow base e size v n xs) (hb : base' ≤ base) : w.ownsRow base' e size v n xs := by
  refine ⟨h.1, ?_⟩
  rcases h.2 with h2 | ⟨g, cap, cur, a, b, c⟩
  · exact .inl h2
  · exact .inr ⟨g, cap, cur, a, Nat.le_trans hb b, c⟩

def rowOf (l : List Nat) : List Value := l.map fun p : Nat => Value.int .i64 p
theorem rowOf_snoc (l : List Nat) (x : Nat) : rowOf (l ++ [x]) = rowOf l ++ [.int .i64 x] := by simp [rowOf]
theorem rowOf_length (l : List Nat) : (rowOf l).length = l.length := by simp [rowOf]

set_option maxRecDepth 100000 in
set_option maxHeartbeats 2000000 in
theorem places_any (x0 : Nat) (m : Nat) (hm : 0 < m) (hm2 : m ≤ 9223372036854775807) (hx : x0 < 18446744073709551616) (w : World) (hT : Tab w) :
    Calls Tryd.prog 25 #[.int .u64 x0, .int .i64 m] w fun e W' => ∃ v, e = .returned v ∧ W'.ownsRow w.heap.size 3 1 v ((places x0).take m).length (rowOf ((places x0).take m)) ∧ v ≠ .slice none 0 0 ∧ Below w.heap.size w W' := by
  obtain ⟨i0, hi, hz0, hz1, hz2⟩ := info_parts infoInt
  have hd : decide (m = 0) = false := by simp; omega
  have hpl := places_length x0
  refine (callsIn_wide (n := 3)).1 ?_
  refine callsIn_of_wp_marks Tryd.func25 rfl trivial ?_ rfl
  simp only [Tryd.ntmps25, List.size_toArray, List.length_cons, List.length_nil, Nat.reduceAdd, Nat.reduceSub, Array.replicate_succ, Array.replicate_zero, List.push_toArray, List.append_toArray, List.nil_append, List.cons_append]
  gi_wp2_with (refine ⟨trivial, ?_⟩; gi_at_call 36; refine (bits_in _ _ _).mono ?_; rintro e w' ⟨rfl, rfl⟩)
  have bM := (((Boxed.new w 3 (.int .i64 m)).alloc (.cells #[.slice none 0 0] 42)).alloc (.cells #[] 3)).alloc (.cells #[.slice (some ⟨w.heap.size + 1 + 1, 0, none⟩) 0 0] 42) |>.alloc (.cells #[.int .u64 x0] 41)
  have bR := ((Boxed.new (w.alloc (.cells #[.int .i64 m] 3)) 42 (.slice none 0 0)).alloc (.cells #[] 3)).alloc (.cells #[.slice (some ⟨w.heap.size + 1 + 1, 0, none⟩) 0 0] 42) |>.alloc (.cells #[.int .u64 x0] 41)
  have oR := ((World.ownsRow_made (base := w.heap.size + 1 + 1) (e := 3) (size := 1) ((w.alloc (.cells #[.int .i64 m] 3)).alloc (.cells #[.slice none 0 0] 42)) #[] 0 (by simp) (by simp) rfl).alloc (.cells #[.slice (some ⟨w.heap.size + 1 + 1, 0, none⟩) 0 0] 42)).alloc (.cells #[.int .u64 x0] 41)
  have bO := (Boxed.new (((w.alloc (.cells #[.int .i64 m] 3)).alloc (.cells #[.slice none 0 0] 42)).alloc (.cells #[] 3)) 42 (.slice (some ⟨w.heap.size + 1 + 1, 0, none⟩) 0 0)).alloc (.cells #[.int .u64 x0] 41)
  have bN := Boxed.new ((((w.alloc (.cells #[.int .i64 m] 3)).alloc (.cells #[.slice none 0 0] 42)).alloc (.cells #[] 3)).alloc (.cells #[.slice (some ⟨w.heap.size + 1 + 1, 0, none⟩) 0 0] 42)) 41 (.int .u64 x0)
  simp only [World.size_alloc] at bR oR bO bN
  have hB0 : Below w.heap.size w (((((w.alloc (.cells #[.int .i64 m] 3)).alloc (.cells #[.slice none 0 0] 42)).alloc (.cells #[] 3)).alloc (.cells #[.slice (some ⟨w.heap.size + 1 + 1, 0, none⟩) 0 0] 42)).alloc (.cells #[.int .u64 x0] 41)) := (((((Below.refl _ w).alloc (Nat.le_refl _) _).alloc (by simp) _).alloc (by simp; omega) _).alloc (by simp; omega) _).alloc (by simp; omega) _
  have hsz : (((((w.alloc (.cells #[.int .i64 m] 3)).alloc (.cells #[.slice none 0 0] 42)).alloc (.cells #[] 3)).alloc (.cells #[.slice (some ⟨w.heap.size + 1 + 1, 0, none⟩) 0 0] 42)).alloc (.cells #[.int .u64 x0] 41)).heap.size = w.heap.size + 5 := by simp
  obtain ⟨W0, hW0⟩ : ∃ W0, ((((w.alloc (.cells #[.int .i64 m] 3)).alloc (.cells #[.slice none 0 0] 42)).alloc (.cells #[] 3)).alloc (.cells #[.slice (some ⟨w.heap.size + 1 + 1, 0, none⟩) 0 0] 42)).alloc (.cells #[.int .u64 x0] 41) = W0 := ⟨_, rfl⟩
  rw [hW0] at bM bR oR bO bN hB0 hsz ⊢
  clear hW0
  have HSZ := Lib.hid hsz
  have hszl : w.heap.size + 5 ≤ W0.heap.size := by omega
  clear hsz
  have hpos := hT.pos
  refine wpIn_rangeFunc_ownG rfl (by omega) (gf := 38) (lb := #[.pointer (some ⟨w.heap.size + 1 + 1 + 1 + 1, 0, none⟩)]) rfl trivial (enters_of Tryd.func38 (by kernel_rfl) rfl)
    (bits_stops _ (by omega) (w.heap.size + 1 + 1 + 1 + 1) w.heap.size x0 hx hpos W0 (by omega) (by omega) (hT.below hpos hB0) bN.cell) belowK_t (belowK_b (by omega)) (Below.refl _ _) (fun _ => rfl)
    (fun pre W => (((∃ v, Boxed W (w.heap.size + 1 + 1 + 1) 42 v ∧ W.ownsRow (w.heap.size + 1 + 1) 3 1 v pre.length (rowOf pre) ∧ v ≠ .slice none 0 0) ∧ Boxed W w.heap.size 3 (.int .i64 m)) ∧ (Boxed W (w.heap.size + 1) 42 (.slice none 0 0) ∧ pre.length < m)) ∧ Below w.heap.size w W)
    (fun c pre W => ((∃ v, Boxed W (w.heap.size + 1) 42 v ∧ W.ownsRow (w.heap.size + 1 + 1) 3 1 v pre.length (rowOf pre) ∧ v ≠ .slice none 0 0) ∧ (c = .ret ∧ pre.length = m)) ∧ Below w.heap.size w W)
    (OwnFrom.and (OwnFrom.and (OwnFrom.and (Own.from (holdsRow_own (w.heap.size + 1 + 1) (w.heap.size + 1 + 1 + 1) 42 3 1 (fun pre => pre.length) (fun pre => rowOf pre) (fun _ v => v ≠ .slice none 0 0)) _) (Own.from (boxed_own _ _ _) _)) (OwnFrom.and (Own.from (boxed_own _ _ _) _) (ownFrom_pure _ _))) (ownFrom_below (Nat.le_refl _) (by omega)))
    (fun c => OwnFrom.and (OwnFrom.and (Own.from (holdsRow_own (w.heap.size + 1 + 1) (w.heap.size + 1) 42 3 1 (fun pre => pre.length) (fun pre => rowOf pre) (fun _ v => v ≠ .slice none 0 0)) _) (ownFrom_pure _ _)) (ownFrom_below (Nat.le_refl _) (by omega)))
    ⟨⟨⟨⟨_, bO, oR, by simp⟩, bM⟩, bR, hm⟩, hB0⟩
    (fun x => { tmps := #[.int .u64 x0, .int .i64 m, undef, .pointer (some ⟨w.heap.size, 0, none⟩), .pointer (some ⟨w.heap.size + 1, 0, none⟩), .pointer (some ⟨w.heap.size + 1 + 1 + 1, 0, none⟩), .int .i64 x, .slice (some ⟨w.heap.size + 1 + 1, 0, none⟩) 0 0, .int .i64 m, .bool false, undef, .int .u64 x0, .func (.func 38) #[] #[.pointer (some ⟨w.heap.size + 1 + 1 + 1 + 1, 0, none⟩)], .int .i64 x, undef, undef, undef, undef, undef, undef, undef, undef, undef, undef], defers := [] }) ?assign ?body ?done ?stop
  case assign =>
    intro l x W K hK
    gi_wp2
    exact hK
  case body =>
    rintro l pre x W ⟨⟨⟨⟨v, hv, hrow, hnn⟩, bM1⟩, bR1, hlm⟩, hB⟩ hlt
    clear hnn
    have hc := hv.cell
    have hml : pre.length + 1 ≤ maxLen := by unfold maxLen; omega
    have hsB := hB.size
    have hw2 : w.heap.size + 1 + 1 ≤ W.heap.size := by have := hv.lt; omega
    have hle : ∀ X : World, Below (w.heap.size + 1 + 1) W X → Below w.heap.size W X := fun X h => h.mono (by omega)
    have Hle := Lib.hid hle
    clear hle
    by_cases hfull : pre.length + 1 = m
    · have htest : (((pre.length : Int) + 1) == (m : Int)) = true := by rw [beq_iff_eq]; omega
      have HF := Lib.hid hfull
      clear hfull
      gi_wp2_with (gi_at_builtin; refine wpListIn_append_own _ rfl _ _ 42 rfl (w.heap.size + 1 + 1) 3 i0 (.int .i64 0) 1 8 Tryd.underlying42 hi hz0 hz1 hz2 rfl (by decide) _ _ _ rfl (hrow.alloc _) ⟨W.heap.size, 0, none⟩ 1 1 [.int .i64 x] rfl rfl (cell_one_new _ _ _) (by simp [Value.oneCell']) (by omega) (by omega) (by simp; omega) ?_; intro v' w1 hown' hgrow _; obtain ⟨g', cap', rfl⟩ := ownsRow_succ hown'; obtain ⟨hv1, hv2, hr2, hk2, hb2⟩ := hv.appended (by decide) hrow hw2 (by omega) hown' hgrow; have hc1 := hv1.cell; have hf1 := hv1.frozen; have hm1 := Boxed.kept_row bM1 (by omega) hrow hgrow; have hr1 := Boxed.kept_row bR1 (by omega) hrow hgrow; have hmc := hm1.cell; have hrc := hr1.cell; have hrf := hr1.frozen)
      have hg' := (hr2.lt g' rfl).1
      refine ⟨(hk2.trans (KeepsOthers.setCell _ _ _)).from _, ⟨⟨_, (hr1.other (by omega) _).set _, ?_, by simp⟩, rfl, by have := HF.out; simp; omega⟩, ?_⟩
      · rw [rowOf_snoc]
        simpa using hr2.kept (grownBy_setCell' _ (w.heap.size + 1) _) (.inr (by simp [Value.ownBlock]; omega))
      · exact (hB.trans (Hle.out _ hb2)).setCell (p := ⟨w.heap.size + 1, 0, none⟩) (by simp) _
    · have htest : (((pre.length : Int) + 1) == (m : Int)) = false := by rw [beq_eq_false_iff_ne]; omega
      gi_wp2_with (gi_at_builtin; refine wpListIn_append_own _ rfl _ _ 42 rfl (w.heap.size + 1 + 1) 3 i0 (.int .i64 0) 1 8 Tryd.underlying42 hi hz0 hz1 hz2 rfl (by decide) _ _ _ rfl (hrow.alloc _) ⟨W.heap.size, 0, none⟩ 1 1 [.int .i64 x] rfl rfl (cell_one_new _ _ _) (by simp [Value.oneCell']) (by omega) (by omega) (by simp; omega) ?_; intro v' w1 hown' hgrow _; obtain ⟨g', cap', rfl⟩ := ownsRow_succ hown'; obtain ⟨hv1, hv2, hr2, hk2, hb2⟩ := hv.appended (by decide) hrow hw2 (by omega) hown' hgrow; have hc1 := hv1.cell; have hf1 := hv1.frozen; have hm1 := Boxed.kept_row bM1 (by omega) hrow hgrow; have hr1 := Boxed.kept_row bR1 (by omega) hrow hgrow; have hmc := hm1.cell)
      exact ⟨hk2.from _, Hle.out _ hb2, ⟨⟨⟨_, hv2, by rw [rowOf_snoc]; simpa using hr2, by simp⟩, hm1.other (by omega) _⟩, hr1.other (by omega) _, by simp; omega⟩, hB.trans (Hle.out _ hb2)⟩
  case done =>
    rintro D ys W hD rfl ⟨⟨⟨⟨v, hv, hrow, hnn⟩, bM1⟩, bR1, hlm⟩, hB⟩ hK
    have htk : (places x0).take m = places x0 := List.take_of_length_le (by omega)
    have HTK := Lib.hid htk
    clear htk
    obtain ⟨a0, n0, c0, rfl⟩ : ∃ a n c, v = .slice a n c := by
      rcases hrow.2 with ⟨rfl, _⟩ | ⟨g, cap, cur, rfl, _⟩
      · exact ⟨_, _, _, rfl⟩
      · exact ⟨_, _, _, rfl⟩
    have hc := hv.cell
    have hrc := bR1.cell
    have hrf := bR1.frozen
    gi_wp2
    have hK' := (KeepsOthers.setCell W ⟨w.heap.size + 1, 0, none⟩ (.slice a0 n0 c0)).same D _ hK rfl
    refine ⟨by simp, .inl ⟨_, _, rfl, run_takeDeferred hK', ?_⟩⟩
    have hc5 := cell_kept (bR1.set (.slice a0 n0 c0)).cell (grownBy_putObj' _ D (.deferred none)) (fun r e => by cases e; exact ⟨_, hK', rfl⟩)
    have hr5 : (W.setCell ⟨w.heap.size + 1, 0, none⟩ (.slice a0 n0 c0)).ownsRow (w.heap.size + 1 + 1) 3 1 (.slice a0 n0 c0) (places x0).length (rowOf (places x0)) :=
      hrow.kept (grownBy_setCell' _ (w.heap.size + 1) _) (by
        rcases a0 with _ | a
        · exact .inl rfl
        · refine .inr (fun e => ?_)
          have := (hrow.lt _ e).1
          omega)
    refine ⟨.slice a0 n0 c0, ?_, _, rfl, by rw [HTK.out]; exact ownsRow_le (ownsRow_putObj hr5 _ hK' rfl) (by omega), hnn, (hB.setCell (p := ⟨w.heap.size + 1, 0, none⟩) (by simp) _).trans (belowK_b (w := w) (Nat.le_refl _) _ D _ _ (by omega) hK' rfl rfl)⟩
    simp [results, Tryd.f25, go_sem, hc5]
  case stop =>
    rintro D c pre W hD hpre ⟨⟨⟨v, hv, hrow, hnn⟩, rfl, hlen⟩, hB⟩ hK
    have htk : (places x0).take m = pre := by rw [← hlen]; exact (List.prefix_iff_eq_take.1 hpre).symm
    have HTK := Lib.hid htk
    clear htk
    gi_wp2
    have hc5 := cell_kept hv.cell (grownBy_putObj' _ D (.deferred none)) (fun r e => by cases e; exact ⟨_, hK, rfl⟩)
    refine ⟨by simp, .inl ⟨_, _, rfl, run_takeDeferred hK, ?_⟩⟩
    refine ⟨v, ?_, _, rfl, by rw [HTK.out]; exact ownsRow_le (ownsRow_putObj hrow _ hK rfl) (by omega), hnn, hB.trans (belowK_b (w := w) (Nat.le_refl _) _ D _ _ (by omega) hK rfl rfl)⟩
    simp [results, Tryd.f25, go_sem, hc5]
end Go.Proofs.YtoilbmhijjkkaaaDoor
