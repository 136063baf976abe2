/- area.byLabel: Union, Meet, Minus. -/
import Derived.Test.YtmdhbbibghpijaaDoorAreaEvery
import Derived.Test.YtmdhbbibghpijaaDoorInRound
namespace Go.Proofs.YtmdhbbibghpijaaDoor
open Go.RowKit Go.Shelf
attribute [local go_sem] Oper.semAt_some

theorem infoSps : (Tryd.prog.info? 32).map (fun i => (i.zero, i.size, i.bytes)) = some (some (.slice none 0 0), 1, 24) := by kernel_rfl
/-- A set of just the keys of h, at most M spans, in a block of its own from base on. -/
def StS (base : Nat) (W : World) (r : SV) (M : Nat) (h : Int → Bool) : Prop := St W r.1 r.2.1 r.2.2 h ∧ r.2.1 ≤ M ∧ Knd base W r.1 r.2.2
/-- What a join of two answers. -/
def Joins (W : World) (M : Nat) (h : Int → Bool) (e : Ending) (w' : World) : Prop := ∃ r : SV, e = .returned (.slice r.1 r.2.1 r.2.2) ∧ Keep W w' ∧ StS W.heap.size w' r M h

theorem SV.one (rs : List SV) : ∀ u ∈ rs.map SV.v, u.oneCell' = true := by
  intro u hu
  obtain ⟨r, _, rfl⟩ := List.mem_map.1 hu
  rfl
theorem StS.only {S : Nat → Prop} {base : Nat} {W W' : World} {r : SV} {M : Nat} {h : Int → Bool} (g : StS base W r M h) (ho : Only S W W') (hS : ∀ a, r.1 = some a → ¬ S a.block) : StS base W' r M h := by
  obtain ⟨⟨zs, ha, hr, hz⟩, hm, hk1, hk2⟩ := g
  refine ⟨⟨zs, ⟨(ha.prs.only ho (Nat.le_refl _) (fun b off e => hS _ e)).more ho.size, ha.cap, ha.nil, ha.ok⟩, hr, hz⟩, hm, hk1, fun a e => ?_⟩
  obtain ⟨hb, cur, hc⟩ := hk2 a e
  exact ⟨hb, cur, (ho.block _ (Array.getElem?_eq_some_iff.1 hc).1 (hS a e)).trans hc⟩
theorem StS.keep {base : Nat} {W W' : World} {r : SV} {M : Nat} {h : Int → Bool} (g : StS base W r M h) (hk : Keep W W') : StS base W' r M h :=
  g.only (Only.of_keep (fun _ => False) hk) (fun _ _ h => h)
theorem StS.mono {base base' : Nat} {W : World} {r : SV} {M : Nat} {h : Int → Bool} (g : StS base W r M h) (hb : base' ≤ base) : StS base' W r M h := ⟨g.1, g.2.1, g.2.2.mono hb⟩
/-- No row of slices lies where spans do. -/
theorem StS.not_row {base : Nat} {W : World} {r : SV} {M : Nat} {h : Int → Bool} (g : StS base W r M h) {gb : Nat} {cur : Array Value} {z : Nat × Nat} (hg : W.heap[gb]? = some (.cells cur 32 z)) : ∀ a, r.1 = some a → ¬ a.block = gb := by
  intro a e hq
  obtain ⟨_, cur', hc⟩ := g.2.2.2 a e
  rw [hq, hg] at hc
  cases hc
theorem StS.not_deferred {base : Nat} {W : World} {r : SV} {M : Nat} {h : Int → Bool} (g : StS base W r M h) {D : Nat} {x : Option (List Deferred)} (hg : W.heap[D]? = some (.deferred x)) : ∀ a, r.1 = some a → ¬ a.block = D := by
  intro a e hq
  obtain ⟨_, cur', hc⟩ := g.2.2.2 a e
  rw [hq, hg] at hc
  cases hc
theorem own_heap {w : World} {base : Nat} {e : TypeId} {v : Value} {n g : Nat} {xs : List Value} (h : w.ownsRow base e 1 v n xs) (hg : v.ownBlock = some g) : ∃ cur, w.heap[g]? = some (.cells cur e (0, 0)) := by
  rcases h.2 with ⟨rfl, _⟩ | ⟨g', cap, cur, rfl, _, hc, _⟩
  · cases hg
  · cases hg
    exact ⟨cur, hc⟩
/-- An area of sets: each label's in a block of its own. -/
structure AreaS (base : Nat) (w : World) (A : Option Addr) (n N : Nat) (f : Nat → Int → Bool) : Prop where
  out : ∀ i, n ≤ i → ∀ k, f i k = false
  row : ∀ i, i < n → ∃ b off, ∃ r : SV, A = some ⟨b, off, none⟩ ∧ b < w.heap.size ∧ w.cell? ⟨b, off + i, none⟩ = some r.v ∧ StS base w r N (f i)
theorem AreaS.area {base : Nat} {w : World} {A : Option Addr} {n N : Nat} {f : Nat → Int → Bool} (h : AreaS base w A n N f) : Area w A n N f :=
  ⟨h.out, fun i hi => by
    obtain ⟨b, off, r, e, hb, hc, hs⟩ := h.row i hi
    exact ⟨b, off, r.1, r.2.1, r.2.2, e, hb, hc, hs.1.bg, hs.2.1⟩⟩
theorem AreaS.keep {base : Nat} {w w' : World} {A : Option Addr} {n N : Nat} {f : Nat → Int → Bool} (h : AreaS base w A n N f) (hk : Keep w w') : AreaS base w' A n N f :=
  ⟨h.out, fun i hi => by
    obtain ⟨b, off, r, e, hb, hc, hs⟩ := h.row i hi
    exact ⟨b, off, r, e, Nat.lt_of_lt_of_le hb hk.size, (hk.cell (p := ⟨b, off + i, none⟩) hb).trans hc, hs.keep hk⟩⟩
/-- A row of one's own of sets. -/
theorem areaS_of_row {base rb : Nat} {w : World} {v : Value} {N : Nat} {f : Nat → Int → Bool} {rs : List SV} (h : w.ownsRow rb 32 1 v rs.length (rs.map SV.v)) (ho : ∀ i, rs.length ≤ i → ∀ k, f i k = false)
    (hr : ∀ i r, rs[i]? = some r → StS base w r N (f i)) : ∃ A c, v = .slice A rs.length c ∧ AreaS base w A rs.length N f := by
  obtain ⟨A, c, rfl, hl⟩ := Lies.of_row h
  refine ⟨A, c, rfl, ho, fun i hi => ?_⟩
  obtain ⟨b, off, e, hb, hc⟩ := hl.2 (by omega)
  refine ⟨b, off, rs[i], e, hb, ?_, hr i _ (List.getElem?_eq_getElem hi)⟩
  rw [hc i hi, List.getD_eq_getElem?_getD, List.getElem?_map, List.getElem?_eq_getElem hi]
  rfl

/-- Between two rounds: how many sets there are, where they lie. -/
def ByI (w : World) (fv : Value) (L : Nat) (h : Nat → Int → Bool) (c : Nat) (pre : List (SV × SV)) (W : World) : Prop :=
  ∃ (A : Option Addr) (cc gb : Nat) (rs : List SV), rs.length = pre.length ∧ Boxed W w.heap.size 51 fv ∧ Boxed W (w.heap.size + 2) 22 (.slice A pre.length cc) ∧ W.ownsRow (w.heap.size + 1) 32 1 (.slice A pre.length cc) pre.length (rs.map SV.v) ∧
    (Value.slice A pre.length cc).ownBlock = some gb ∧ (gb = w.heap.size + 1 ∨ w.heap.size + 7 + c ≤ gb) ∧ Keep w W ∧ ∀ i r, rs[i]? = some r → StS (w.heap.size + 7 + c) W r L (h i)
/-- What is ready for the append, wherever the joined set lies. -/
theorem by_append {w W : World} {fv : Value} {L : Nat} {h : Nat → Int → Bool} {c : Nat} {pre : List (SV × SV)} {A : Option Addr} {cc gb : Nat} {rs : List SV} (i0 : TypeInfo) (hi : Tryd.prog.info? 32 = some i0) (hz0 : i0.zero = some (.slice none 0 0)) (hz1 : i0.size = 1) (hz2 : i0.bytes = 24)
    (q0 : rs.length = pre.length) (q3 : Boxed W (w.heap.size + 2) 22 (.slice A pre.length cc)) (q4 : W.ownsRow (w.heap.size + 1) 32 1 (.slice A pre.length cc) pre.length (rs.map SV.v)) (q5 : (Value.slice A pre.length cc).ownBlock = some gb) (q6 : gb = w.heap.size + 1 ∨ w.heap.size + 7 + c ≤ gb)
    (q7 : Keep w W) (q8 : ∀ i r, rs[i]? = some r → StS (w.heap.size + 7 + c) W r L (h i)) (hw : w.heap.size + 7 + c ≤ W.heap.size) (hl : pre.length + 1 ≤ 1000000) (q2 : Boxed W w.heap.size 51 fv) (x : SV × SV) (w2 : World) (r : SV) (hk : Keep W w2) (hr : StS W.heap.size w2 r L (h pre.length)) :
    ∃ A6 c6 w6, (Builtin.append_ #[22, 22] 22 #[.slice A pre.length cc, .slice (some ⟨w2.heap.size, 0, none⟩) 1 1]).run Tryd.prog (w2.alloc (.cells #[.slice r.1 r.2.1 r.2.2] 32)) = .ok (.slice A6 (pre.length + 1) c6) w6 ∧
      w2.cell? ⟨w.heap.size + 2, 0, none⟩ = some (.slice A pre.length cc) ∧ w6.cell? ⟨w.heap.size + 2, 0, none⟩ = some (.slice A pre.length cc) ∧ w6.frozen? ⟨w.heap.size + 2, 0, none⟩ = false ∧ (∀ X, Keep W X → X.cell? ⟨w.heap.size, 0, none⟩ = some fv) ∧ w6.cell? ⟨w.heap.size, 0, none⟩ = some fv ∧ (w6.setCell ⟨w.heap.size + 2, 0, none⟩ (.slice A6 (pre.length + 1) c6)).cell? ⟨w.heap.size, 0, none⟩ = some fv ∧
      Only (fun k => k = gb ∨ k = w.heap.size + 2) W (w6.setCell ⟨w.heap.size + 2, 0, none⟩ (.slice A6 (pre.length + 1) c6)) ∧ ByI w fv L h c (pre ++ [x]) (w6.setCell ⟨w.heap.size + 2, 0, none⟩ (.slice A6 (pre.length + 1) c6)) := by
  have hg2 : gb < W.heap.size := (q4.lt gb q5).2
  have hb : w.heap.size + 2 < W.heap.size := by omega
  have hs2 := hk.size
  have hq4 : (w2.alloc (.cells #[.slice r.1 r.2.1 r.2.2] 32)).ownsRow (w.heap.size + 1) 32 1 (.slice A pre.length cc) pre.length (rs.map SV.v) := ownsRow_only q4 (Only.of_keep (fun _ => False) (hk.alloc _)) (fun _ _ h => h)
  have hnew : ∀ j u, [SV.v r][j]? = some u → (w2.alloc (.cells #[.slice r.1 r.2.1 r.2.2] 32)).cell? ((⟨w2.heap.size, 0, none⟩ : Addr).add j) = some u := by
    intro j u hu
    obtain rfl : j = 0 := by
      have := (List.getElem?_eq_some_iff.1 hu).1
      simpa using this
    have hb := World.alloc_heap_new w2 (.cells #[.slice r.1 r.2.1 r.2.2] 32)
    simp at hu
    subst hu
    rw [addr_add]
    generalize w2.alloc (.cells #[.slice r.1 r.2.1 r.2.2] 32) = V at *
    simp [World.cell?, hb, SV.v]
  obtain ⟨v', w6, hrun, hown, hgrow, -, hblk⟩ := run_append_own_at (P := Tryd.prog) (w2.alloc (.cells #[.slice r.1 r.2.1 r.2.2] 32)) (w.heap.size + 1) 22 22 32 i0 (.slice none 0 0) 1 24 Tryd.underlying22 hi hz0 hz1 hz2 rfl (by decide) (.slice A pre.length cc) pre.length (rs.map SV.v) hq4
    ⟨w2.heap.size, 0, none⟩ 1 1 [SV.v r] rfl hnew (by intro u hu; simp at hu; subst hu; rfl) (by unfold maxLen; omega) (by omega) (by simp; omega)
  obtain ⟨A6, c6, rfl⟩ : ∃ A' c', v' = .slice A' (pre.length + 1) c' := by
    rcases hown.2 with ⟨rfl, h0⟩ | ⟨g, cap, cur, rfl, _⟩
    · omega
    · exact ⟨_, _, rfl⟩
  have hO1 : Only (fun k => k = gb) W w6 := ((Only.of_keep _ hk).alloc _).grown hgrow (fun k _ e => by rw [q5] at e; cases e; rfl)
  have b7 : Boxed w6 (w.heap.size + 2) 22 (.slice A pre.length cc) := Boxed.only q3 hO1 (by omega)
  have hO : Only (fun k => k = gb ∨ k = w.heap.size + 2) W (w6.setCell ⟨w.heap.size + 2, 0, none⟩ (.slice A6 (pre.length + 1) c6)) := (hO1.mono (fun _ _ h => .inl h)).setCell _ _ (.inr rfl)
  have hO6 : Only (fun k => k = w.heap.size + 2) w6 (w6.setCell ⟨w.heap.size + 2, 0, none⟩ (.slice A6 (pre.length + 1) c6)) := (Only.refl _ w6).setCell _ _ rfl
  have hl1 : (pre ++ [x]).length = pre.length + 1 := by simp
  have hg6 : ∃ g6, (Value.slice A6 (pre.length + 1) c6).ownBlock = some g6 ∧ (g6 = w.heap.size + 1 ∨ w.heap.size + 7 + c ≤ g6) := by
    rcases hblk with e | e
    · exact ⟨gb, e.trans q5, q6⟩
    · exact ⟨w2.heap.size + 1, by simpa using e, .inr (by omega)⟩
  obtain ⟨g6, hg6, hg6c⟩ := hg6
  obtain ⟨cur, hcur⟩ := own_heap q4 q5
  refine ⟨A6, c6, w6, hrun, Boxed.cell ((hk.block _ (Boxed.lt q3)).trans q3), b7.cell, b7.frozen, fun X hX => Boxed.cell ((hX.block _ (Boxed.lt q2)).trans q2), (Boxed.only q2 hO1 (by omega) : Boxed w6 _ _ _).cell, (Boxed.only q2 hO (by omega) : Boxed (w6.setCell _ _) _ _ _).cell, hO, A6, c6, g6, rs ++ [r], by simp [q0], ?_, ?_, ?_, ?_, hg6c, Only.keep q7 hO (fun k h => by omega), ?_⟩
  · exact Boxed.only q2 hO (by omega)
  · rw [hl1]; exact b7.set _
  · rw [hl1, List.map_append]
    exact ownsRow_only hown hO6 (fun g' e => by rw [hg6] at e; cases e; omega)
  · rw [hl1]; exact hg6
  · intro i y hy
    by_cases hlt : i < rs.length
    · rw [List.getElem?_append_left hlt] at hy
      have h0 := q8 i y hy
      refine h0.only hO (fun a e hk => ?_)
      have h1 := (h0.2.2.2 a e).1
      rcases hk with hk | hk
      · exact h0.not_row hcur a e hk
      · omega
    · rw [List.getElem?_append_right (by omega)] at hy
      have hil : i - rs.length = 0 := by
        have := (List.getElem?_eq_some_iff.1 hy).1
        simp at this
        omega
      rw [hil] at hy
      simp at hy
      subst hy
      have hi2 : i = pre.length := by omega
      rw [hi2]
      have hO2 : Only (fun k => k = gb ∨ k = w.heap.size + 2) w2 (w6.setCell ⟨w.heap.size + 2, 0, none⟩ (.slice A6 (pre.length + 1) c6)) := ((((Only.refl _ w2).alloc _).grown hgrow (fun k _ e => by rw [q5] at e; cases e; exact .inl rfl))).setCell _ _ (.inr rfl)
      refine (hr.mono hw).only hO2 (fun a e hk2 => ?_)
      have h1 := (hr.2.2.2 a e).1
      omega

set_option maxRecDepth 100000 in
set_option maxHeartbeats 2000000 in
theorem by_union (op : Bool → Bool → Bool) (h00 : op false false = false) {w : World} {A B : Option Addr} {na ca nb cb N M L : Nat} {f g : Nat → Int → Bool} (hA : Area w A na N f) (hB : Area w B nb M g) (hl : max na nb + 1 ≤ 1000000)
    (hF : ∀ (X : World) (x y : SV) (i : Nat), BgS X x N (f i) → BgS X y M (g i) → Calls Tryd.prog 33 #[.slice x.1 x.2.1 x.2.2, .slice y.1 y.2.1 y.2.2] X (Joins X L (fun k => op (f i k) (g i k)))) :
    Calls Tryd.prog 32 #[.slice A na ca, .slice B nb cb, .func (.func 33) #[] #[]] w fun e w' => ∃ A' c', e = .returned (.slice A' (max na nb) c') ∧ Keep w w' ∧ AreaS w.heap.size w' A' (max na nb) L (fun i k => op (f i k) (g i k)) ∧ max na nb ≤ c' := by
  obtain ⟨i0, hi, hz0, hz1, hz2⟩ := info_parts infoSps
  obtain ⟨K, hK⟩ : ∃ K, K = max na nb := ⟨_, rfl⟩
  rw [← hK] at hl ⊢
  have HF := Lib.hid hF
  have HA := Lib.hid hA
  have HB := Lib.hid hB
  have HL := Lib.hid hl
  have hout : ∀ i, K ≤ i → ∀ k, op (f i k) (g i k) = false := fun i h k => by rw [hA.out i (by omega), hB.out i (by omega)]; exact h00
  have HOUT := Lib.hid hout
  have hmx : max (na : Int) (nb : Int) = (K : Int) := by omega
  have HK := Lib.hid hK
  have hkl : (K : Int) ≤ 1000000 := by omega
  have hmk : (Instr.makeSlice 22 (.int .i64 0) (.int .i64 (K : Int))).run Tryd.prog (w.alloc (.cells #[.func (.func 33) #[] #[]] 51)) = .ok (.slice (some ⟨w.heap.size + 1, 0, none⟩) 0 K) ((w.alloc (.cells #[.func (.func 33) #[] #[]] 51)).alloc (.cells (madeCells (Value.slice none 0 0).cells (K * i0.size)) 32)) := by
    have := run_make (P := Tryd.prog) (w.alloc (.cells #[.func (.func 33) #[] #[]] 51)) 22 32 i0 (.slice none 0 0) Tryd.underlying22 hi hz0 .i64 .i64 0 (K : Int) (by omega) (by omega) (by rw [hz2]; omega) (by omega)
    simpa using this
  rw [hz1, Nat.mul_one] at hmk
  clear hF hA hB hK hout hl
  refine (callsIn_wide (n := 3)).1 ?_
  refine callsIn_of_wp_marks Tryd.func32 rfl trivial ?_ rfl
  simp only [Tryd.ntmps32, List.size_toArray, List.length_cons, List.length_nil, Nat.reduceAdd, Nat.reduceSub, Array.replicate_succ, Array.replicate_zero, List.push_toArray, List.append_toArray, List.nil_append, List.cons_append]
  gi_wp2_with fail
  clear hmk
  have bF := ((Boxed.new w 51 (.func (.func 33) #[] #[])).alloc (.cells (madeCells #[.slice none 0 0] K) 32)).alloc (.cells #[.slice (some ⟨w.heap.size + 1, 0, none⟩) 0 K] 22)
  have bR : ((w.alloc (.cells #[.func (.func 33) #[] #[]] 51)).alloc (.cells (madeCells #[.slice none 0 0] K) 32)).heap[w.heap.size + 1]? = some (.cells (madeCells #[.slice none 0 0] K) 32 (0, 0)) := by
    have := World.alloc_heap_new (w.alloc (.cells #[.func (.func 33) #[] #[]] 51)) (.cells (madeCells #[.slice none 0 0] K) 32)
    rwa [World.size_alloc] at this
  have bO := Boxed.new ((w.alloc (.cells #[.func (.func 33) #[] #[]] 51)).alloc (.cells (madeCells #[.slice none 0 0] K) 32)) 22 (.slice (some ⟨w.heap.size + 1, 0, none⟩) 0 K)
  simp only [World.size_alloc] at bO
  have hkA : Keep ((w.alloc (.cells #[.func (.func 33) #[] #[]] 51)).alloc (.cells (madeCells #[.slice none 0 0] K) 32)) (((w.alloc (.cells #[.func (.func 33) #[] #[]] 51)).alloc (.cells (madeCells #[.slice none 0 0] K) 32)).alloc (.cells #[.slice (some ⟨w.heap.size + 1, 0, none⟩) 0 K] 22)) := (Keep.refl _).alloc _
  have bR2 := (hkA.block _ (Array.getElem?_eq_some_iff.1 bR).1).trans bR
  have hB0 : Keep w (((w.alloc (.cells #[.func (.func 33) #[] #[]] 51)).alloc (.cells (madeCells #[.slice none 0 0] K) 32)).alloc (.cells #[.slice (some ⟨w.heap.size + 1, 0, none⟩) 0 K] 22)) := (((Keep.refl w).alloc _).alloc _).alloc _
  have hs0 : (((w.alloc (.cells #[.func (.func 33) #[] #[]] 51)).alloc (.cells (madeCells #[.slice none 0 0] K) 32)).alloc (.cells #[.slice (some ⟨w.heap.size + 1, 0, none⟩) 0 K] 22)).heap.size = w.heap.size + 3 := by simp
  clear bR hkA
  generalize ((w.alloc (.cells #[.func (.func 33) #[] #[]] 51)).alloc (.cells (madeCells #[.slice none 0 0] K) 32)).alloc (.cells #[.slice (some ⟨w.heap.size + 1, 0, none⟩) 0 K] 22) = W0 at *
  refine ⟨trivial, (pairs_in A na ca B nb cb W0).mono ?_⟩
  rintro e w1 ⟨rfl, hw1⟩
  have hk1 : Keep W0 w1 := by rw [hw1]; exact ((Keep.refl W0).alloc _).alloc _
  have hs1 : w1.heap.size = w.heap.size + 5 := by rw [hw1]; simp [hs0]
  have cp1 : w1.cell? ⟨w.heap.size + 3, 0, none⟩ = some (.slice A na ca) := by rw [hw1, ← hs0]; exact ((Boxed.new W0 22 (.slice A na ca)).alloc _).cell
  have cp2 : w1.cell? ⟨w.heap.size + 4, 0, none⟩ = some (.slice B nb cb) := by
    have := (Boxed.new (W0.alloc (.cells #[.slice A na ca] 22)) 22 (.slice B nb cb)).cell
    simp only [World.size_alloc, hs0] at this
    rw [hw1]; exact this
  have hkw := hB0.trans hk1
  have hlm : K ≤ maxLen := by unfold maxLen; omega
  have hseq := pairs_seq (3 - 1) (by omega) K HK.out HA.out HB.out hkw (by omega) cp1 cp2
  have hstart : ∀ c, ByI w (.func (.func 33) #[] #[]) L (fun i k => op (f i k) (g i k)) c [] w1 := fun c =>
    ⟨some ⟨w.heap.size + 1, 0, none⟩, K, w.heap.size + 1, [], rfl, (hk1.block _ bF.lt).trans bF, (hk1.block _ bO.lt).trans bO, ⟨rfl, .inr ⟨w.heap.size + 1, K, madeCells #[.slice none 0 0] K, rfl, Nat.le_refl _, (hk1.block _ (Array.getElem?_eq_some_iff.1 bR2).1).trans bR2, Nat.zero_le _, hlm, by rw [size_madeCells, Nat.mul_one], rfl⟩⟩, rfl, .inl rfl, hkw, fun i r hi => by simp at hi⟩
  rw [hs0]
  have HSEQ := Lib.hid hseq
  have HST := Lib.hid hstart
  have HS1 := Lib.hid hs1
  clear cp1 cp2 hw1 bF bO bR2 hB0 hs0 hk1 hseq hstart hkw hlm
  gi_wp2_with fail
  refine wpIn_rangeFunc_X rfl (by omega) (gf := 73) (lb := #[.pointer (some ⟨w.heap.size + 3, 0, none⟩), .pointer (some ⟨w.heap.size + 4, 0, none⟩)]) rfl trivial (enters_of Tryd.func73 (by kernel_rfl) rfl) HSEQ.out
    (fun c => ⟨⟨by omega, by omega, by omega⟩, by omega, by omega, by omega⟩) (Keep.refl w1) (fun _ => rfl)
    (ByI w (.func (.func 33) #[] #[]) L (fun i k => op (f i k) (g i k))) (fun _ _ _ _ => False) ?sI (fun _ _ _ _ _ h _ => h) HST.out
    (fun _ pre x a' _ => BgS w x.1 N (f pre.length) ∧ BgS w x.2 M (g pre.length) ∧ a' = { tmps := #[.slice A na ca, .slice B nb cb, .func (.func 33) #[] #[], undef, undef, .pointer (some ⟨w.heap.size, 0, none⟩), .slice none 0 0, .pointer (some ⟨w.heap.size + 1 + 1, 0, none⟩), .slice x.1.1 x.1.2.1 x.1.2.2, .slice x.2.1 x.2.2.1 x.2.2.2, .slice A na ca, .int .i64 na, .slice B nb cb, .int .i64 nb, .int .i64 K, .slice (some ⟨w.heap.size + 1, 0, none⟩) 0 K, .slice A na ca, .slice B nb cb, .func (.func 73) #[] #[.pointer (some ⟨w.heap.size + 3, 0, none⟩), .pointer (some ⟨w.heap.size + 3 + 1, 0, none⟩)], .slice x.1.1 x.1.2.1 x.1.2.2, .slice x.2.1 x.2.2.1 x.2.2.2, undef, undef, undef, undef, undef, undef, undef, undef], defers := [] }) (fun _ _ _ _ _ _ _ h _ => h) ?assign ?body ?done ?stop
  case sI =>
    rintro c pre X Y ⟨A1, cc, gb, rs, q0, q2, q3, q4, q5, q6, q7, q8⟩ ho
    have h1 := HS1.out
    refine ⟨A1, cc, gb, rs, q0, Boxed.only q2 ho (by omega), Boxed.only q3 ho (by omega), ownsRow_only q4 ho (fun g' e => by rw [q5] at e; cases e; omega), q5, q6, Only.keep q7 ho (fun k hk => by omega), fun i r hir => ?_⟩
    have h0 := q8 i r hir
    exact h0.only ho (fun a e hk => by have := (h0.2.2.2 a e).1; omega)
  case assign =>
    rintro l c pre x W K2 hi hadm hsz hK2
    dsimp only [encP]
    gi_wp2
    exact hK2 _ _ (Only.refl _ W) hi ⟨hadm.1, hadm.2, rfl⟩
  case body =>
    rintro l c pre x a' W ⟨A1, cc, gb, rs, q0, q2, q3, q4, q5, q6, q7, q8⟩ ⟨x1, x2, rfl⟩ hsz hlen
    have h1 := HS1.out
    have hWd : Keep W W.drew := (Keep.refl W).drew
    have c5 := q2.cell
    have c7 := q3.cell
    have HC := Lib.hid (HF.out W.drew x.1 x.2 pre.length ((x1.keep q7).keep hWd) ((x2.keep q7).keep hWd))
    have HAP := Lib.hid (fun w2 r (hk : Keep W w2) hr => by_append (fv := .func (.func 33) #[] #[]) (L := L) (h := fun i k => op (f i k) (g i k)) (c := c) i0 hi hz0 hz1 hz2 q0 q3 q4 q5 q6 q7 q8 (by omega) (by have := HL.out; omega) q2 x w2 r hk hr)
    have hg6 := q6
    have hlt7 : w.heap.size + 2 < W.heap.size := Boxed.lt q3
    have HB5 := Lib.hid (show ∀ X, Keep W X → X.cell? ⟨w.heap.size, 0, none⟩ = some (.func (.func 33) #[] #[]) from fun X hX => Boxed.cell ((hX.block _ (Boxed.lt q2)).trans q2))
    clear q0 q2 q3 q4 q5 q6 q7 q8 x1 x2 HSEQ HST
    gi_wp2_with fail
    have HS5 := Lib.hid (show ∀ X, Keep W X → True ∧ X.cell? ⟨w.heap.size, 0, none⟩ = some (.func (.func 33) #[] #[]) from fun X hX => ⟨trivial, HB5.out X hX⟩)
    refine plan_region_in (S := fun w' => True ∧ w'.cell? ⟨w.heap.size, 0, none⟩ = some (.func (.func 33) #[] #[])) [⟨0, 128, 2097152⟩, ⟨0, 32, 4194304⟩, ⟨0, 256, 8388608⟩, ⟨0, 512, 16777216⟩, ⟨14, 29360128, 33554432⟩, ⟨16, 33554432, 67108864⟩, ⟨49, 69206016, 134217728⟩, ⟨127, 134217856, 0⟩] (.step 1 false (.step 2 false (.step 3 false (.fork 0 (.fin [(4, true), (5, true), (6, true), (7, true)]) 4 (.fork 0 (.fin [(5, true), (6, true), (7, true)]) 5 (.fin [(0, true), (6, true), (7, true)])))))) rfl (by kernel_rfl) (by kernel_rfl) (by kernel_rfl) (fun _ _ h => h) (fun _ _ d _ _ h => by cases d <;> exact h) (HS5.out _ hWd) ?_
    try simp only [PlanR, gslot, List.getElem?_toArray, List.getElem?_cons_zero, List.getElem?_cons_succ]
    refine first_take (v := ?_) (a' := ?_) (by rfl) ?_ ?_ ?_
    rotate_left 2
    · (intro w hSw; obtain ⟨-, hSw⟩ := hSw; go_simp; with_reducible rfl)
    · (simp only [Act.put, List.setIfInBounds_toArray, List.set_cons_zero, List.set_cons_succ]; with_reducible rfl)
    try simp only [PlanR, gslot, List.getElem?_toArray, List.getElem?_cons_zero, List.getElem?_cons_succ]
    refine first_take (v := ?_) (a' := ?_) (by rfl) ?_ ?_ ?_
    rotate_left 2
    · (intro w hSw; obtain ⟨-, hSw⟩ := hSw; go_simp; with_reducible rfl)
    · (simp only [Act.put, List.setIfInBounds_toArray, List.set_cons_zero, List.set_cons_succ]; with_reducible rfl)
    try simp only [PlanR, gslot, List.getElem?_toArray, List.getElem?_cons_zero, List.getElem?_cons_succ]
    refine first_take (v := ?_) (a' := ?_) (by rfl) ?_ ?_ ?_
    rotate_left 2
    · (intro w hSw; obtain ⟨-, hSw⟩ := hSw; go_simp; with_reducible rfl)
    · (simp only [Act.put, List.setIfInBounds_toArray, List.set_cons_zero, List.set_cons_succ]; with_reducible rfl)
    try simp only [PlanR, gslot, List.getElem?_toArray, List.getElem?_cons_zero, List.getElem?_cons_succ]
    refine ⟨?_, ?_⟩
    · skip
      try simp only [PlanR, gslot, List.getElem?_toArray, List.getElem?_cons_zero, List.getElem?_cons_succ]
      refine br_make (v := .slice A1 pre.length cc) (w' := W.drew) (a' := ?_) (by rfl) (by go_simp) (HS5.out _ hWd) ?_ ?_
      rotate_left
      · (simp only [Act.put, List.setIfInBounds_toArray, List.set_cons_zero, List.set_cons_succ]; with_reducible rfl)
      try simp only [rowsOf, rowAt, gslot, List.map_cons, List.map_nil, List.getElem?_toArray, List.getElem?_cons_zero, List.getElem?_cons_succ]
      refine sq_callx (R := fun v w' => Keep W.drew w' ∧ ∃ r : SV, v = .slice r.1 r.2.1 r.2.2 ∧ StS W.drew.heap.size w' r L (fun k => op (f pre.length k) (g pre.length k))) (f := 33) (args := ?_) (by rfl) (by rfl) (by rfl) Tryd.call33 ?_ ?_ ?_
      rotate_left 1
      · (go_simp; with_reducible rfl)
      · refine HC.out.mono ?_
        rintro e w' ⟨r, rfl, hk, hst⟩
        exact ⟨_, rfl, HS5.out _ (hWd.trans hk), hk, r, rfl, hst⟩
      rintro v w2 - ⟨hk2, r, rfl, hst⟩
      obtain ⟨A6, c6, w6, hap, c7', c76, f76, -, c56, c57, hO6, hI6⟩ := HAP.out w2 r (hWd.trans hk2) hst
      simp only [Act.put, List.setIfInBounds_toArray, List.set_cons_zero, List.set_cons_succ]
      try simp only [rowsOf, rowAt, gslot, List.map_cons, List.map_nil, List.getElem?_toArray, List.getElem?_cons_zero, List.getElem?_cons_succ]
      refine sq_make (v := .slice (some ⟨w2.heap.size, 0, none⟩) 1 1) (w' := w2.alloc (.cells #[.slice r.1 r.2.1 r.2.2] 32)) (a' := ?_) (by rfl) (by go_simp) (HS5.out _ ((hWd.trans hk2).alloc _)) ?_ ?_
      rotate_left
      · (simp only [Act.put, List.setIfInBounds_toArray, List.set_cons_zero, List.set_cons_succ]; with_reducible rfl)
      refine sq_make (v := .slice A6 (pre.length + 1) c6) (w' := w6) (a' := ?_) (by rfl) (run_app (by rfl) (by rfl) (by rfl) hap) ⟨trivial, c56⟩ ?_ ?_
      rotate_left
      · (simp only [Act.put, List.setIfInBounds_toArray, List.set_cons_zero, List.set_cons_succ]; with_reducible rfl)
      refine sq_store (w' := w6.setCell ⟨w.heap.size + 2, 0, none⟩ (.slice A6 (pre.length + 1) c6)) (a' := ?_) (by rfl) (by go_simp) ⟨trivial, c57⟩ ?_ ?_
      rotate_left
      · (simp only [Act.put]; with_reducible rfl)
      refine seq_nil ?_
      exact ⟨hO6.mono (fun k _ h => ⟨⟨by omega, by omega, by omega⟩, by omega, by omega⟩), hI6⟩
    · skip
      try simp only [PlanR, gslot, List.getElem?_toArray, List.getElem?_cons_zero, List.getElem?_cons_succ]
      refine br_callx (R := fun v w' => Keep W.drew w' ∧ ∃ r : SV, v = .slice r.1 r.2.1 r.2.2 ∧ StS W.drew.heap.size w' r L (fun k => op (f pre.length k) (g pre.length k))) (f := 33) (args := ?_) (by rfl) (by rfl) (by rfl) Tryd.call33 ?_ ?_ ?_
      rotate_left 1
      · (go_simp; with_reducible rfl)
      · refine HC.out.mono ?_
        rintro e w' ⟨r, rfl, hk, hst⟩
        exact ⟨_, rfl, HS5.out _ (hWd.trans hk), hk, r, rfl, hst⟩
      rintro v w2 - ⟨hk2, r, rfl, hst⟩
      obtain ⟨A6, c6, w6, hap, c7', c76, f76, -, c56, c57, hO6, hI6⟩ := HAP.out w2 r (hWd.trans hk2) hst
      simp only [Act.put, List.setIfInBounds_toArray, List.set_cons_zero, List.set_cons_succ]
      try simp only [PlanR, gslot, List.getElem?_toArray, List.getElem?_cons_zero, List.getElem?_cons_succ]
      refine ⟨?_, ?_⟩
      · skip
        refine br_make (v := .slice A1 pre.length cc) (w' := w2) (a' := ?_) (by rfl) (by go_simp) (HS5.out _ (hWd.trans hk2)) ?_ ?_
        rotate_left
        · (simp only [Act.put, List.setIfInBounds_toArray, List.set_cons_zero, List.set_cons_succ]; with_reducible rfl)
        try simp only [rowsOf, rowAt, gslot, List.map_cons, List.map_nil, List.getElem?_toArray, List.getElem?_cons_zero, List.getElem?_cons_succ]
        refine sq_make (v := .slice (some ⟨w2.heap.size, 0, none⟩) 1 1) (w' := w2.alloc (.cells #[.slice r.1 r.2.1 r.2.2] 32)) (a' := ?_) (by rfl) (by go_simp) (HS5.out _ ((hWd.trans hk2).alloc _)) ?_ ?_
        rotate_left
        · (simp only [Act.put, List.setIfInBounds_toArray, List.set_cons_zero, List.set_cons_succ]; with_reducible rfl)
        refine sq_make (v := .slice A6 (pre.length + 1) c6) (w' := w6) (a' := ?_) (by rfl) (run_app (by rfl) (by rfl) (by rfl) hap) ⟨trivial, c56⟩ ?_ ?_
        rotate_left
        · (simp only [Act.put, List.setIfInBounds_toArray, List.set_cons_zero, List.set_cons_succ]; with_reducible rfl)
        refine sq_store (w' := w6.setCell ⟨w.heap.size + 2, 0, none⟩ (.slice A6 (pre.length + 1) c6)) (a' := ?_) (by rfl) (by go_simp) ⟨trivial, c57⟩ ?_ ?_
        rotate_left
        · (simp only [Act.put]; with_reducible rfl)
        refine seq_nil ?_
        exact ⟨hO6.mono (fun k _ h => ⟨⟨by omega, by omega, by omega⟩, by omega, by omega⟩), hI6⟩
      · skip
        refine br_make (v := .slice (some ⟨w2.heap.size, 0, none⟩) 1 1) (w' := w2.alloc (.cells #[.slice r.1 r.2.1 r.2.2] 32)) (a' := ?_) (by rfl) (by go_simp) (HS5.out _ ((hWd.trans hk2).alloc _)) ?_ ?_
        rotate_left
        · (simp only [Act.put, List.setIfInBounds_toArray, List.set_cons_zero, List.set_cons_succ]; with_reducible rfl)
        try simp only [rowsOf, rowAt, gslot, List.map_cons, List.map_nil, List.getElem?_toArray, List.getElem?_cons_zero, List.getElem?_cons_succ]
        have c7e := ((hWd.trans hk2).alloc (.cells #[.slice r.1 r.2.1 r.2.2] 32)).cell (p := ⟨w.heap.size + 2, 0, none⟩) hlt7
        rw [c7] at c7e
        refine sq_make (v := .slice A1 pre.length cc) (w' := (w2.alloc (.cells #[.slice r.1 r.2.1 r.2.2] 32))) (a' := ?_) (by rfl) (by go_simp) (HS5.out _ ((hWd.trans hk2).alloc _)) ?_ ?_
        rotate_left
        · (simp only [Act.put, List.setIfInBounds_toArray, List.set_cons_zero, List.set_cons_succ]; with_reducible rfl)
        refine sq_make (v := .slice A6 (pre.length + 1) c6) (w' := w6) (a' := ?_) (by rfl) (run_app (by rfl) (by rfl) (by rfl) hap) ⟨trivial, c56⟩ ?_ ?_
        rotate_left
        · (simp only [Act.put, List.setIfInBounds_toArray, List.set_cons_zero, List.set_cons_succ]; with_reducible rfl)
        refine sq_store (w' := w6.setCell ⟨w.heap.size + 2, 0, none⟩ (.slice A6 (pre.length + 1) c6)) (a' := ?_) (by rfl) (by go_simp) ⟨trivial, c57⟩ ?_ ?_
        rotate_left
        · (simp only [Act.put]; with_reducible rfl)
        refine seq_nil ?_
        exact ⟨hO6.mono (fun k _ h => ⟨⟨by omega, by omega, by omega⟩, by omega, by omega⟩), hI6⟩
  case done =>
    rintro D c ys W hD hlen ⟨A1, cc, gb, rs, q0, q2, q3, q4, q5, q6, q7, q8⟩ hdef
    have h1 := HS1.out
    have c7 := q3.cell
    have hO : Only (fun k => k = D) W (W.putObj D (.deferred none)) := (Only.refl _ W).putObj _ _ rfl
    have hown := ownsRow_putObj q4 (.deferred none) hdef rfl
    have hcapK : K ≤ cc := by
      rcases q4.2 with ⟨h2, h3⟩ | ⟨g2, cap2, cur2, h2, -, -, h3, -⟩
      · omega
      · cases h2; omega
    have HCAP := Lib.hid hcapK
    have hrs : rs.length = K := q0.trans hlen
    have hl2 : ys.length = rs.length := q0.symm
    rw [hl2] at hown
    obtain ⟨A2, c2, e2, hS⟩ := areaS_of_row (base := w.heap.size) (N := L) (f := fun i k => op (f i k) (g i k)) hown (fun i hi k => HOUT.out i (by omega) k) (fun i r hir => ((q8 i r hir).only hO (fun a e hk => (q8 i r hir).not_deferred hdef a e hk)).mono (by omega))
    have hkf := Only.keep q7 hO (fun k h => by omega)
    cases e2
    rw [hrs] at hS
    have HS2 := Lib.hid hS
    have HKF := Lib.hid hkf
    have hl3 : ys.length = K := hlen
    rw [hl3] at c7
    clear hcapK q0 q2 q3 q4 q5 q6 q7 q8 hown hS hkf hrs hl2 hlen hl3 HSEQ HST
    gi_wp2
    refine ⟨by simp, .inl ⟨_, _, rfl, run_takeDeferred hdef, ?_⟩⟩
    exact ⟨.slice A1 K cc, by simp [results, Tryd.f32, go_sem], A1, cc, rfl, HKF.out, HS2.out, HCAP.out⟩
  case stop => rintro D c e pre W hD hS hF _; exact hF.elim
set_option maxRecDepth 100000 in
set_option maxHeartbeats 2000000 in
theorem by_meet (op : Bool → Bool → Bool) (h00 : op false false = false) {w : World} {A B : Option Addr} {na ca nb cb N M L : Nat} {f g : Nat → Int → Bool} (hA : Area w A na N f) (hB : Area w B nb M g) (hl : max na nb + 1 ≤ 1000000)
    (hF : ∀ (X : World) (x y : SV) (i : Nat), BgS X x N (f i) → BgS X y M (g i) → Calls Tryd.prog 34 #[.slice x.1 x.2.1 x.2.2, .slice y.1 y.2.1 y.2.2] X (Joins X L (fun k => op (f i k) (g i k)))) :
    Calls Tryd.prog 32 #[.slice A na ca, .slice B nb cb, .func (.func 34) #[] #[]] w fun e w' => ∃ A' c', e = .returned (.slice A' (max na nb) c') ∧ Keep w w' ∧ AreaS w.heap.size w' A' (max na nb) L (fun i k => op (f i k) (g i k)) ∧ max na nb ≤ c' := by
  obtain ⟨i0, hi, hz0, hz1, hz2⟩ := info_parts infoSps
  obtain ⟨K, hK⟩ : ∃ K, K = max na nb := ⟨_, rfl⟩
  rw [← hK] at hl ⊢
  have HF := Lib.hid hF
  have HA := Lib.hid hA
  have HB := Lib.hid hB
  have HL := Lib.hid hl
  have hout : ∀ i, K ≤ i → ∀ k, op (f i k) (g i k) = false := fun i h k => by rw [hA.out i (by omega), hB.out i (by omega)]; exact h00
  have HOUT := Lib.hid hout
  have hmx : max (na : Int) (nb : Int) = (K : Int) := by omega
  have HK := Lib.hid hK
  have hkl : (K : Int) ≤ 1000000 := by omega
  have hmk : (Instr.makeSlice 22 (.int .i64 0) (.int .i64 (K : Int))).run Tryd.prog (w.alloc (.cells #[.func (.func 34) #[] #[]] 51)) = .ok (.slice (some ⟨w.heap.size + 1, 0, none⟩) 0 K) ((w.alloc (.cells #[.func (.func 34) #[] #[]] 51)).alloc (.cells (madeCells (Value.slice none 0 0).cells (K * i0.size)) 32)) := by
    have := run_make (P := Tryd.prog) (w.alloc (.cells #[.func (.func 34) #[] #[]] 51)) 22 32 i0 (.slice none 0 0) Tryd.underlying22 hi hz0 .i64 .i64 0 (K : Int) (by omega) (by omega) (by rw [hz2]; omega) (by omega)
    simpa using this
  rw [hz1, Nat.mul_one] at hmk
  clear hF hA hB hK hout hl
  refine (callsIn_wide (n := 3)).1 ?_
  refine callsIn_of_wp_marks Tryd.func32 rfl trivial ?_ rfl
  simp only [Tryd.ntmps32, List.size_toArray, List.length_cons, List.length_nil, Nat.reduceAdd, Nat.reduceSub, Array.replicate_succ, Array.replicate_zero, List.push_toArray, List.append_toArray, List.nil_append, List.cons_append]
  gi_wp2_with fail
  clear hmk
  have bF := ((Boxed.new w 51 (.func (.func 34) #[] #[])).alloc (.cells (madeCells #[.slice none 0 0] K) 32)).alloc (.cells #[.slice (some ⟨w.heap.size + 1, 0, none⟩) 0 K] 22)
  have bR : ((w.alloc (.cells #[.func (.func 34) #[] #[]] 51)).alloc (.cells (madeCells #[.slice none 0 0] K) 32)).heap[w.heap.size + 1]? = some (.cells (madeCells #[.slice none 0 0] K) 32 (0, 0)) := by
    have := World.alloc_heap_new (w.alloc (.cells #[.func (.func 34) #[] #[]] 51)) (.cells (madeCells #[.slice none 0 0] K) 32)
    rwa [World.size_alloc] at this
  have bO := Boxed.new ((w.alloc (.cells #[.func (.func 34) #[] #[]] 51)).alloc (.cells (madeCells #[.slice none 0 0] K) 32)) 22 (.slice (some ⟨w.heap.size + 1, 0, none⟩) 0 K)
  simp only [World.size_alloc] at bO
  have hkA : Keep ((w.alloc (.cells #[.func (.func 34) #[] #[]] 51)).alloc (.cells (madeCells #[.slice none 0 0] K) 32)) (((w.alloc (.cells #[.func (.func 34) #[] #[]] 51)).alloc (.cells (madeCells #[.slice none 0 0] K) 32)).alloc (.cells #[.slice (some ⟨w.heap.size + 1, 0, none⟩) 0 K] 22)) := (Keep.refl _).alloc _
  have bR2 := (hkA.block _ (Array.getElem?_eq_some_iff.1 bR).1).trans bR
  have hB0 : Keep w (((w.alloc (.cells #[.func (.func 34) #[] #[]] 51)).alloc (.cells (madeCells #[.slice none 0 0] K) 32)).alloc (.cells #[.slice (some ⟨w.heap.size + 1, 0, none⟩) 0 K] 22)) := (((Keep.refl w).alloc _).alloc _).alloc _
  have hs0 : (((w.alloc (.cells #[.func (.func 34) #[] #[]] 51)).alloc (.cells (madeCells #[.slice none 0 0] K) 32)).alloc (.cells #[.slice (some ⟨w.heap.size + 1, 0, none⟩) 0 K] 22)).heap.size = w.heap.size + 3 := by simp
  clear bR hkA
  generalize ((w.alloc (.cells #[.func (.func 34) #[] #[]] 51)).alloc (.cells (madeCells #[.slice none 0 0] K) 32)).alloc (.cells #[.slice (some ⟨w.heap.size + 1, 0, none⟩) 0 K] 22) = W0 at *
  refine ⟨trivial, (pairs_in A na ca B nb cb W0).mono ?_⟩
  rintro e w1 ⟨rfl, hw1⟩
  have hk1 : Keep W0 w1 := by rw [hw1]; exact ((Keep.refl W0).alloc _).alloc _
  have hs1 : w1.heap.size = w.heap.size + 5 := by rw [hw1]; simp [hs0]
  have cp1 : w1.cell? ⟨w.heap.size + 3, 0, none⟩ = some (.slice A na ca) := by rw [hw1, ← hs0]; exact ((Boxed.new W0 22 (.slice A na ca)).alloc _).cell
  have cp2 : w1.cell? ⟨w.heap.size + 4, 0, none⟩ = some (.slice B nb cb) := by
    have := (Boxed.new (W0.alloc (.cells #[.slice A na ca] 22)) 22 (.slice B nb cb)).cell
    simp only [World.size_alloc, hs0] at this
    rw [hw1]; exact this
  have hkw := hB0.trans hk1
  have hlm : K ≤ maxLen := by unfold maxLen; omega
  have hseq := pairs_seq (3 - 1) (by omega) K HK.out HA.out HB.out hkw (by omega) cp1 cp2
  have hstart : ∀ c, ByI w (.func (.func 34) #[] #[]) L (fun i k => op (f i k) (g i k)) c [] w1 := fun c =>
    ⟨some ⟨w.heap.size + 1, 0, none⟩, K, w.heap.size + 1, [], rfl, (hk1.block _ bF.lt).trans bF, (hk1.block _ bO.lt).trans bO, ⟨rfl, .inr ⟨w.heap.size + 1, K, madeCells #[.slice none 0 0] K, rfl, Nat.le_refl _, (hk1.block _ (Array.getElem?_eq_some_iff.1 bR2).1).trans bR2, Nat.zero_le _, hlm, by rw [size_madeCells, Nat.mul_one], rfl⟩⟩, rfl, .inl rfl, hkw, fun i r hi => by simp at hi⟩
  rw [hs0]
  have HSEQ := Lib.hid hseq
  have HST := Lib.hid hstart
  have HS1 := Lib.hid hs1
  clear cp1 cp2 hw1 bF bO bR2 hB0 hs0 hk1 hseq hstart hkw hlm
  gi_wp2_with fail
  refine wpIn_rangeFunc_X rfl (by omega) (gf := 73) (lb := #[.pointer (some ⟨w.heap.size + 3, 0, none⟩), .pointer (some ⟨w.heap.size + 4, 0, none⟩)]) rfl trivial (enters_of Tryd.func73 (by kernel_rfl) rfl) HSEQ.out
    (fun c => ⟨⟨by omega, by omega, by omega⟩, by omega, by omega, by omega⟩) (Keep.refl w1) (fun _ => rfl)
    (ByI w (.func (.func 34) #[] #[]) L (fun i k => op (f i k) (g i k))) (fun _ _ _ _ => False) ?sI (fun _ _ _ _ _ h _ => h) HST.out
    (fun _ pre x a' _ => BgS w x.1 N (f pre.length) ∧ BgS w x.2 M (g pre.length) ∧ a' = { tmps := #[.slice A na ca, .slice B nb cb, .func (.func 34) #[] #[], undef, undef, .pointer (some ⟨w.heap.size, 0, none⟩), .slice none 0 0, .pointer (some ⟨w.heap.size + 1 + 1, 0, none⟩), .slice x.1.1 x.1.2.1 x.1.2.2, .slice x.2.1 x.2.2.1 x.2.2.2, .slice A na ca, .int .i64 na, .slice B nb cb, .int .i64 nb, .int .i64 K, .slice (some ⟨w.heap.size + 1, 0, none⟩) 0 K, .slice A na ca, .slice B nb cb, .func (.func 73) #[] #[.pointer (some ⟨w.heap.size + 3, 0, none⟩), .pointer (some ⟨w.heap.size + 3 + 1, 0, none⟩)], .slice x.1.1 x.1.2.1 x.1.2.2, .slice x.2.1 x.2.2.1 x.2.2.2, undef, undef, undef, undef, undef, undef, undef, undef], defers := [] }) (fun _ _ _ _ _ _ _ h _ => h) ?assign ?body ?done ?stop
  case sI =>
    rintro c pre X Y ⟨A1, cc, gb, rs, q0, q2, q3, q4, q5, q6, q7, q8⟩ ho
    have h1 := HS1.out
    refine ⟨A1, cc, gb, rs, q0, Boxed.only q2 ho (by omega), Boxed.only q3 ho (by omega), ownsRow_only q4 ho (fun g' e => by rw [q5] at e; cases e; omega), q5, q6, Only.keep q7 ho (fun k hk => by omega), fun i r hir => ?_⟩
    have h0 := q8 i r hir
    exact h0.only ho (fun a e hk => by have := (h0.2.2.2 a e).1; omega)
  case assign =>
    rintro l c pre x W K2 hi hadm hsz hK2
    dsimp only [encP]
    gi_wp2
    exact hK2 _ _ (Only.refl _ W) hi ⟨hadm.1, hadm.2, rfl⟩
  case body =>
    rintro l c pre x a' W ⟨A1, cc, gb, rs, q0, q2, q3, q4, q5, q6, q7, q8⟩ ⟨x1, x2, rfl⟩ hsz hlen
    have h1 := HS1.out
    have hWd : Keep W W.drew := (Keep.refl W).drew
    have c5 := q2.cell
    have c7 := q3.cell
    have HC := Lib.hid (HF.out W.drew x.1 x.2 pre.length ((x1.keep q7).keep hWd) ((x2.keep q7).keep hWd))
    have HAP := Lib.hid (fun w2 r (hk : Keep W w2) hr => by_append (fv := .func (.func 34) #[] #[]) (L := L) (h := fun i k => op (f i k) (g i k)) (c := c) i0 hi hz0 hz1 hz2 q0 q3 q4 q5 q6 q7 q8 (by omega) (by have := HL.out; omega) q2 x w2 r hk hr)
    have hg6 := q6
    have hlt7 : w.heap.size + 2 < W.heap.size := Boxed.lt q3
    have HB5 := Lib.hid (show ∀ X, Keep W X → X.cell? ⟨w.heap.size, 0, none⟩ = some (.func (.func 34) #[] #[]) from fun X hX => Boxed.cell ((hX.block _ (Boxed.lt q2)).trans q2))
    clear q0 q2 q3 q4 q5 q6 q7 q8 x1 x2 HSEQ HST
    gi_wp2_with fail
    have HS5 := Lib.hid (show ∀ X, Keep W X → True ∧ X.cell? ⟨w.heap.size, 0, none⟩ = some (.func (.func 34) #[] #[]) from fun X hX => ⟨trivial, HB5.out X hX⟩)
    refine plan_region_in (S := fun w' => True ∧ w'.cell? ⟨w.heap.size, 0, none⟩ = some (.func (.func 34) #[] #[])) [⟨0, 128, 2097152⟩, ⟨0, 32, 4194304⟩, ⟨0, 256, 8388608⟩, ⟨0, 512, 16777216⟩, ⟨14, 29360128, 33554432⟩, ⟨16, 33554432, 67108864⟩, ⟨49, 69206016, 134217728⟩, ⟨127, 134217856, 0⟩] (.step 1 false (.step 2 false (.step 3 false (.fork 0 (.fin [(4, true), (5, true), (6, true), (7, true)]) 4 (.fork 0 (.fin [(5, true), (6, true), (7, true)]) 5 (.fin [(0, true), (6, true), (7, true)])))))) rfl (by kernel_rfl) (by kernel_rfl) (by kernel_rfl) (fun _ _ h => h) (fun _ _ d _ _ h => by cases d <;> exact h) (HS5.out _ hWd) ?_
    try simp only [PlanR, gslot, List.getElem?_toArray, List.getElem?_cons_zero, List.getElem?_cons_succ]
    refine first_take (v := ?_) (a' := ?_) (by rfl) ?_ ?_ ?_
    rotate_left 2
    · (intro w hSw; obtain ⟨-, hSw⟩ := hSw; go_simp; with_reducible rfl)
    · (simp only [Act.put, List.setIfInBounds_toArray, List.set_cons_zero, List.set_cons_succ]; with_reducible rfl)
    try simp only [PlanR, gslot, List.getElem?_toArray, List.getElem?_cons_zero, List.getElem?_cons_succ]
    refine first_take (v := ?_) (a' := ?_) (by rfl) ?_ ?_ ?_
    rotate_left 2
    · (intro w hSw; obtain ⟨-, hSw⟩ := hSw; go_simp; with_reducible rfl)
    · (simp only [Act.put, List.setIfInBounds_toArray, List.set_cons_zero, List.set_cons_succ]; with_reducible rfl)
    try simp only [PlanR, gslot, List.getElem?_toArray, List.getElem?_cons_zero, List.getElem?_cons_succ]
    refine first_take (v := ?_) (a' := ?_) (by rfl) ?_ ?_ ?_
    rotate_left 2
    · (intro w hSw; obtain ⟨-, hSw⟩ := hSw; go_simp; with_reducible rfl)
    · (simp only [Act.put, List.setIfInBounds_toArray, List.set_cons_zero, List.set_cons_succ]; with_reducible rfl)
    try simp only [PlanR, gslot, List.getElem?_toArray, List.getElem?_cons_zero, List.getElem?_cons_succ]
    refine ⟨?_, ?_⟩
    · skip
      try simp only [PlanR, gslot, List.getElem?_toArray, List.getElem?_cons_zero, List.getElem?_cons_succ]
      refine br_make (v := .slice A1 pre.length cc) (w' := W.drew) (a' := ?_) (by rfl) (by go_simp) (HS5.out _ hWd) ?_ ?_
      rotate_left
      · (simp only [Act.put, List.setIfInBounds_toArray, List.set_cons_zero, List.set_cons_succ]; with_reducible rfl)
      try simp only [rowsOf, rowAt, gslot, List.map_cons, List.map_nil, List.getElem?_toArray, List.getElem?_cons_zero, List.getElem?_cons_succ]
      refine sq_callx (R := fun v w' => Keep W.drew w' ∧ ∃ r : SV, v = .slice r.1 r.2.1 r.2.2 ∧ StS W.drew.heap.size w' r L (fun k => op (f pre.length k) (g pre.length k))) (f := 34) (args := ?_) (by rfl) (by rfl) (by rfl) Tryd.call34 ?_ ?_ ?_
      rotate_left 1
      · (go_simp; with_reducible rfl)
      · refine HC.out.mono ?_
        rintro e w' ⟨r, rfl, hk, hst⟩
        exact ⟨_, rfl, HS5.out _ (hWd.trans hk), hk, r, rfl, hst⟩
      rintro v w2 - ⟨hk2, r, rfl, hst⟩
      obtain ⟨A6, c6, w6, hap, c7', c76, f76, -, c56, c57, hO6, hI6⟩ := HAP.out w2 r (hWd.trans hk2) hst
      simp only [Act.put, List.setIfInBounds_toArray, List.set_cons_zero, List.set_cons_succ]
      try simp only [rowsOf, rowAt, gslot, List.map_cons, List.map_nil, List.getElem?_toArray, List.getElem?_cons_zero, List.getElem?_cons_succ]
      refine sq_make (v := .slice (some ⟨w2.heap.size, 0, none⟩) 1 1) (w' := w2.alloc (.cells #[.slice r.1 r.2.1 r.2.2] 32)) (a' := ?_) (by rfl) (by go_simp) (HS5.out _ ((hWd.trans hk2).alloc _)) ?_ ?_
      rotate_left
      · (simp only [Act.put, List.setIfInBounds_toArray, List.set_cons_zero, List.set_cons_succ]; with_reducible rfl)
      refine sq_make (v := .slice A6 (pre.length + 1) c6) (w' := w6) (a' := ?_) (by rfl) (run_app (by rfl) (by rfl) (by rfl) hap) ⟨trivial, c56⟩ ?_ ?_
      rotate_left
      · (simp only [Act.put, List.setIfInBounds_toArray, List.set_cons_zero, List.set_cons_succ]; with_reducible rfl)
      refine sq_store (w' := w6.setCell ⟨w.heap.size + 2, 0, none⟩ (.slice A6 (pre.length + 1) c6)) (a' := ?_) (by rfl) (by go_simp) ⟨trivial, c57⟩ ?_ ?_
      rotate_left
      · (simp only [Act.put]; with_reducible rfl)
      refine seq_nil ?_
      exact ⟨hO6.mono (fun k _ h => ⟨⟨by omega, by omega, by omega⟩, by omega, by omega⟩), hI6⟩
    · skip
      try simp only [PlanR, gslot, List.getElem?_toArray, List.getElem?_cons_zero, List.getElem?_cons_succ]
      refine br_callx (R := fun v w' => Keep W.drew w' ∧ ∃ r : SV, v = .slice r.1 r.2.1 r.2.2 ∧ StS W.drew.heap.size w' r L (fun k => op (f pre.length k) (g pre.length k))) (f := 34) (args := ?_) (by rfl) (by rfl) (by rfl) Tryd.call34 ?_ ?_ ?_
      rotate_left 1
      · (go_simp; with_reducible rfl)
      · refine HC.out.mono ?_
        rintro e w' ⟨r, rfl, hk, hst⟩
        exact ⟨_, rfl, HS5.out _ (hWd.trans hk), hk, r, rfl, hst⟩
      rintro v w2 - ⟨hk2, r, rfl, hst⟩
      obtain ⟨A6, c6, w6, hap, c7', c76, f76, -, c56, c57, hO6, hI6⟩ := HAP.out w2 r (hWd.trans hk2) hst
      simp only [Act.put, List.setIfInBounds_toArray, List.set_cons_zero, List.set_cons_succ]
      try simp only [PlanR, gslot, List.getElem?_toArray, List.getElem?_cons_zero, List.getElem?_cons_succ]
      refine ⟨?_, ?_⟩
      · skip
        refine br_make (v := .slice A1 pre.length cc) (w' := w2) (a' := ?_) (by rfl) (by go_simp) (HS5.out _ (hWd.trans hk2)) ?_ ?_
        rotate_left
        · (simp only [Act.put, List.setIfInBounds_toArray, List.set_cons_zero, List.set_cons_succ]; with_reducible rfl)
        try simp only [rowsOf, rowAt, gslot, List.map_cons, List.map_nil, List.getElem?_toArray, List.getElem?_cons_zero, List.getElem?_cons_succ]
        refine sq_make (v := .slice (some ⟨w2.heap.size, 0, none⟩) 1 1) (w' := w2.alloc (.cells #[.slice r.1 r.2.1 r.2.2] 32)) (a' := ?_) (by rfl) (by go_simp) (HS5.out _ ((hWd.trans hk2).alloc _)) ?_ ?_
        rotate_left
        · (simp only [Act.put, List.setIfInBounds_toArray, List.set_cons_zero, List.set_cons_succ]; with_reducible rfl)
        refine sq_make (v := .slice A6 (pre.length + 1) c6) (w' := w6) (a' := ?_) (by rfl) (run_app (by rfl) (by rfl) (by rfl) hap) ⟨trivial, c56⟩ ?_ ?_
        rotate_left
        · (simp only [Act.put, List.setIfInBounds_toArray, List.set_cons_zero, List.set_cons_succ]; with_reducible rfl)
        refine sq_store (w' := w6.setCell ⟨w.heap.size + 2, 0, none⟩ (.slice A6 (pre.length + 1) c6)) (a' := ?_) (by rfl) (by go_simp) ⟨trivial, c57⟩ ?_ ?_
        rotate_left
        · (simp only [Act.put]; with_reducible rfl)
        refine seq_nil ?_
        exact ⟨hO6.mono (fun k _ h => ⟨⟨by omega, by omega, by omega⟩, by omega, by omega⟩), hI6⟩
      · skip
        refine br_make (v := .slice (some ⟨w2.heap.size, 0, none⟩) 1 1) (w' := w2.alloc (.cells #[.slice r.1 r.2.1 r.2.2] 32)) (a' := ?_) (by rfl) (by go_simp) (HS5.out _ ((hWd.trans hk2).alloc _)) ?_ ?_
        rotate_left
        · (simp only [Act.put, List.setIfInBounds_toArray, List.set_cons_zero, List.set_cons_succ]; with_reducible rfl)
        try simp only [rowsOf, rowAt, gslot, List.map_cons, List.map_nil, List.getElem?_toArray, List.getElem?_cons_zero, List.getElem?_cons_succ]
        have c7e := ((hWd.trans hk2).alloc (.cells #[.slice r.1 r.2.1 r.2.2] 32)).cell (p := ⟨w.heap.size + 2, 0, none⟩) hlt7
        rw [c7] at c7e
        refine sq_make (v := .slice A1 pre.length cc) (w' := (w2.alloc (.cells #[.slice r.1 r.2.1 r.2.2] 32))) (a' := ?_) (by rfl) (by go_simp) (HS5.out _ ((hWd.trans hk2).alloc _)) ?_ ?_
        rotate_left
        · (simp only [Act.put, List.setIfInBounds_toArray, List.set_cons_zero, List.set_cons_succ]; with_reducible rfl)
        refine sq_make (v := .slice A6 (pre.length + 1) c6) (w' := w6) (a' := ?_) (by rfl) (run_app (by rfl) (by rfl) (by rfl) hap) ⟨trivial, c56⟩ ?_ ?_
        rotate_left
        · (simp only [Act.put, List.setIfInBounds_toArray, List.set_cons_zero, List.set_cons_succ]; with_reducible rfl)
        refine sq_store (w' := w6.setCell ⟨w.heap.size + 2, 0, none⟩ (.slice A6 (pre.length + 1) c6)) (a' := ?_) (by rfl) (by go_simp) ⟨trivial, c57⟩ ?_ ?_
        rotate_left
        · (simp only [Act.put]; with_reducible rfl)
        refine seq_nil ?_
        exact ⟨hO6.mono (fun k _ h => ⟨⟨by omega, by omega, by omega⟩, by omega, by omega⟩), hI6⟩
  case done =>
    rintro D c ys W hD hlen ⟨A1, cc, gb, rs, q0, q2, q3, q4, q5, q6, q7, q8⟩ hdef
    have h1 := HS1.out
    have c7 := q3.cell
    have hO : Only (fun k => k = D) W (W.putObj D (.deferred none)) := (Only.refl _ W).putObj _ _ rfl
    have hown := ownsRow_putObj q4 (.deferred none) hdef rfl
    have hcapK : K ≤ cc := by
      rcases q4.2 with ⟨h2, h3⟩ | ⟨g2, cap2, cur2, h2, -, -, h3, -⟩
      · omega
      · cases h2; omega
    have HCAP := Lib.hid hcapK
    have hrs : rs.length = K := q0.trans hlen
    have hl2 : ys.length = rs.length := q0.symm
    rw [hl2] at hown
    obtain ⟨A2, c2, e2, hS⟩ := areaS_of_row (base := w.heap.size) (N := L) (f := fun i k => op (f i k) (g i k)) hown (fun i hi k => HOUT.out i (by omega) k) (fun i r hir => ((q8 i r hir).only hO (fun a e hk => (q8 i r hir).not_deferred hdef a e hk)).mono (by omega))
    have hkf := Only.keep q7 hO (fun k h => by omega)
    cases e2
    rw [hrs] at hS
    have HS2 := Lib.hid hS
    have HKF := Lib.hid hkf
    have hl3 : ys.length = K := hlen
    rw [hl3] at c7
    clear hcapK q0 q2 q3 q4 q5 q6 q7 q8 hown hS hkf hrs hl2 hlen hl3 HSEQ HST
    gi_wp2
    refine ⟨by simp, .inl ⟨_, _, rfl, run_takeDeferred hdef, ?_⟩⟩
    exact ⟨.slice A1 K cc, by simp [results, Tryd.f32, go_sem], A1, cc, rfl, HKF.out, HS2.out, HCAP.out⟩
  case stop => rintro D c e pre W hD hS hF _; exact hF.elim
set_option maxRecDepth 100000 in
set_option maxHeartbeats 2000000 in
theorem by_minus (op : Bool → Bool → Bool) (h00 : op false false = false) {w : World} {A B : Option Addr} {na ca nb cb N M L : Nat} {f g : Nat → Int → Bool} (hA : Area w A na N f) (hB : Area w B nb M g) (hl : max na nb + 1 ≤ 1000000)
    (hF : ∀ (X : World) (x y : SV) (i : Nat), BgS X x N (f i) → BgS X y M (g i) → Calls Tryd.prog 35 #[.slice x.1 x.2.1 x.2.2, .slice y.1 y.2.1 y.2.2] X (Joins X L (fun k => op (f i k) (g i k)))) :
    Calls Tryd.prog 32 #[.slice A na ca, .slice B nb cb, .func (.func 35) #[] #[]] w fun e w' => ∃ A' c', e = .returned (.slice A' (max na nb) c') ∧ Keep w w' ∧ AreaS w.heap.size w' A' (max na nb) L (fun i k => op (f i k) (g i k)) ∧ max na nb ≤ c' := by
  obtain ⟨i0, hi, hz0, hz1, hz2⟩ := info_parts infoSps
  obtain ⟨K, hK⟩ : ∃ K, K = max na nb := ⟨_, rfl⟩
  rw [← hK] at hl ⊢
  have HF := Lib.hid hF
  have HA := Lib.hid hA
  have HB := Lib.hid hB
  have HL := Lib.hid hl
  have hout : ∀ i, K ≤ i → ∀ k, op (f i k) (g i k) = false := fun i h k => by rw [hA.out i (by omega), hB.out i (by omega)]; exact h00
  have HOUT := Lib.hid hout
  have hmx : max (na : Int) (nb : Int) = (K : Int) := by omega
  have HK := Lib.hid hK
  have hkl : (K : Int) ≤ 1000000 := by omega
  have hmk : (Instr.makeSlice 22 (.int .i64 0) (.int .i64 (K : Int))).run Tryd.prog (w.alloc (.cells #[.func (.func 35) #[] #[]] 51)) = .ok (.slice (some ⟨w.heap.size + 1, 0, none⟩) 0 K) ((w.alloc (.cells #[.func (.func 35) #[] #[]] 51)).alloc (.cells (madeCells (Value.slice none 0 0).cells (K * i0.size)) 32)) := by
    have := run_make (P := Tryd.prog) (w.alloc (.cells #[.func (.func 35) #[] #[]] 51)) 22 32 i0 (.slice none 0 0) Tryd.underlying22 hi hz0 .i64 .i64 0 (K : Int) (by omega) (by omega) (by rw [hz2]; omega) (by omega)
    simpa using this
  rw [hz1, Nat.mul_one] at hmk
  clear hF hA hB hK hout hl
  refine (callsIn_wide (n := 3)).1 ?_
  refine callsIn_of_wp_marks Tryd.func32 rfl trivial ?_ rfl
  simp only [Tryd.ntmps32, List.size_toArray, List.length_cons, List.length_nil, Nat.reduceAdd, Nat.reduceSub, Array.replicate_succ, Array.replicate_zero, List.push_toArray, List.append_toArray, List.nil_append, List.cons_append]
  gi_wp2_with fail
  clear hmk
  have bF := ((Boxed.new w 51 (.func (.func 35) #[] #[])).alloc (.cells (madeCells #[.slice none 0 0] K) 32)).alloc (.cells #[.slice (some ⟨w.heap.size + 1, 0, none⟩) 0 K] 22)
  have bR : ((w.alloc (.cells #[.func (.func 35) #[] #[]] 51)).alloc (.cells (madeCells #[.slice none 0 0] K) 32)).heap[w.heap.size + 1]? = some (.cells (madeCells #[.slice none 0 0] K) 32 (0, 0)) := by
    have := World.alloc_heap_new (w.alloc (.cells #[.func (.func 35) #[] #[]] 51)) (.cells (madeCells #[.slice none 0 0] K) 32)
    rwa [World.size_alloc] at this
  have bO := Boxed.new ((w.alloc (.cells #[.func (.func 35) #[] #[]] 51)).alloc (.cells (madeCells #[.slice none 0 0] K) 32)) 22 (.slice (some ⟨w.heap.size + 1, 0, none⟩) 0 K)
  simp only [World.size_alloc] at bO
  have hkA : Keep ((w.alloc (.cells #[.func (.func 35) #[] #[]] 51)).alloc (.cells (madeCells #[.slice none 0 0] K) 32)) (((w.alloc (.cells #[.func (.func 35) #[] #[]] 51)).alloc (.cells (madeCells #[.slice none 0 0] K) 32)).alloc (.cells #[.slice (some ⟨w.heap.size + 1, 0, none⟩) 0 K] 22)) := (Keep.refl _).alloc _
  have bR2 := (hkA.block _ (Array.getElem?_eq_some_iff.1 bR).1).trans bR
  have hB0 : Keep w (((w.alloc (.cells #[.func (.func 35) #[] #[]] 51)).alloc (.cells (madeCells #[.slice none 0 0] K) 32)).alloc (.cells #[.slice (some ⟨w.heap.size + 1, 0, none⟩) 0 K] 22)) := (((Keep.refl w).alloc _).alloc _).alloc _
  have hs0 : (((w.alloc (.cells #[.func (.func 35) #[] #[]] 51)).alloc (.cells (madeCells #[.slice none 0 0] K) 32)).alloc (.cells #[.slice (some ⟨w.heap.size + 1, 0, none⟩) 0 K] 22)).heap.size = w.heap.size + 3 := by simp
  clear bR hkA
  generalize ((w.alloc (.cells #[.func (.func 35) #[] #[]] 51)).alloc (.cells (madeCells #[.slice none 0 0] K) 32)).alloc (.cells #[.slice (some ⟨w.heap.size + 1, 0, none⟩) 0 K] 22) = W0 at *
  refine ⟨trivial, (pairs_in A na ca B nb cb W0).mono ?_⟩
  rintro e w1 ⟨rfl, hw1⟩
  have hk1 : Keep W0 w1 := by rw [hw1]; exact ((Keep.refl W0).alloc _).alloc _
  have hs1 : w1.heap.size = w.heap.size + 5 := by rw [hw1]; simp [hs0]
  have cp1 : w1.cell? ⟨w.heap.size + 3, 0, none⟩ = some (.slice A na ca) := by rw [hw1, ← hs0]; exact ((Boxed.new W0 22 (.slice A na ca)).alloc _).cell
  have cp2 : w1.cell? ⟨w.heap.size + 4, 0, none⟩ = some (.slice B nb cb) := by
    have := (Boxed.new (W0.alloc (.cells #[.slice A na ca] 22)) 22 (.slice B nb cb)).cell
    simp only [World.size_alloc, hs0] at this
    rw [hw1]; exact this
  have hkw := hB0.trans hk1
  have hlm : K ≤ maxLen := by unfold maxLen; omega
  have hseq := pairs_seq (3 - 1) (by omega) K HK.out HA.out HB.out hkw (by omega) cp1 cp2
  have hstart : ∀ c, ByI w (.func (.func 35) #[] #[]) L (fun i k => op (f i k) (g i k)) c [] w1 := fun c =>
    ⟨some ⟨w.heap.size + 1, 0, none⟩, K, w.heap.size + 1, [], rfl, (hk1.block _ bF.lt).trans bF, (hk1.block _ bO.lt).trans bO, ⟨rfl, .inr ⟨w.heap.size + 1, K, madeCells #[.slice none 0 0] K, rfl, Nat.le_refl _, (hk1.block _ (Array.getElem?_eq_some_iff.1 bR2).1).trans bR2, Nat.zero_le _, hlm, by rw [size_madeCells, Nat.mul_one], rfl⟩⟩, rfl, .inl rfl, hkw, fun i r hi => by simp at hi⟩
  rw [hs0]
  have HSEQ := Lib.hid hseq
  have HST := Lib.hid hstart
  have HS1 := Lib.hid hs1
  clear cp1 cp2 hw1 bF bO bR2 hB0 hs0 hk1 hseq hstart hkw hlm
  gi_wp2_with fail
  refine wpIn_rangeFunc_X rfl (by omega) (gf := 73) (lb := #[.pointer (some ⟨w.heap.size + 3, 0, none⟩), .pointer (some ⟨w.heap.size + 4, 0, none⟩)]) rfl trivial (enters_of Tryd.func73 (by kernel_rfl) rfl) HSEQ.out
    (fun c => ⟨⟨by omega, by omega, by omega⟩, by omega, by omega, by omega⟩) (Keep.refl w1) (fun _ => rfl)
    (ByI w (.func (.func 35) #[] #[]) L (fun i k => op (f i k) (g i k))) (fun _ _ _ _ => False) ?sI (fun _ _ _ _ _ h _ => h) HST.out
    (fun _ pre x a' _ => BgS w x.1 N (f pre.length) ∧ BgS w x.2 M (g pre.length) ∧ a' = { tmps := #[.slice A na ca, .slice B nb cb, .func (.func 35) #[] #[], undef, undef, .pointer (some ⟨w.heap.size, 0, none⟩), .slice none 0 0, .pointer (some ⟨w.heap.size + 1 + 1, 0, none⟩), .slice x.1.1 x.1.2.1 x.1.2.2, .slice x.2.1 x.2.2.1 x.2.2.2, .slice A na ca, .int .i64 na, .slice B nb cb, .int .i64 nb, .int .i64 K, .slice (some ⟨w.heap.size + 1, 0, none⟩) 0 K, .slice A na ca, .slice B nb cb, .func (.func 73) #[] #[.pointer (some ⟨w.heap.size + 3, 0, none⟩), .pointer (some ⟨w.heap.size + 3 + 1, 0, none⟩)], .slice x.1.1 x.1.2.1 x.1.2.2, .slice x.2.1 x.2.2.1 x.2.2.2, undef, undef, undef, undef, undef, undef, undef, undef], defers := [] }) (fun _ _ _ _ _ _ _ h _ => h) ?assign ?body ?done ?stop
  case sI =>
    rintro c pre X Y ⟨A1, cc, gb, rs, q0, q2, q3, q4, q5, q6, q7, q8⟩ ho
    have h1 := HS1.out
    refine ⟨A1, cc, gb, rs, q0, Boxed.only q2 ho (by omega), Boxed.only q3 ho (by omega), ownsRow_only q4 ho (fun g' e => by rw [q5] at e; cases e; omega), q5, q6, Only.keep q7 ho (fun k hk => by omega), fun i r hir => ?_⟩
    have h0 := q8 i r hir
    exact h0.only ho (fun a e hk => by have := (h0.2.2.2 a e).1; omega)
  case assign =>
    rintro l c pre x W K2 hi hadm hsz hK2
    dsimp only [encP]
    gi_wp2
    exact hK2 _ _ (Only.refl _ W) hi ⟨hadm.1, hadm.2, rfl⟩
  case body =>
    rintro l c pre x a' W ⟨A1, cc, gb, rs, q0, q2, q3, q4, q5, q6, q7, q8⟩ ⟨x1, x2, rfl⟩ hsz hlen
    have h1 := HS1.out
    have hWd : Keep W W.drew := (Keep.refl W).drew
    have c5 := q2.cell
    have c7 := q3.cell
    have HC := Lib.hid (HF.out W.drew x.1 x.2 pre.length ((x1.keep q7).keep hWd) ((x2.keep q7).keep hWd))
    have HAP := Lib.hid (fun w2 r (hk : Keep W w2) hr => by_append (fv := .func (.func 35) #[] #[]) (L := L) (h := fun i k => op (f i k) (g i k)) (c := c) i0 hi hz0 hz1 hz2 q0 q3 q4 q5 q6 q7 q8 (by omega) (by have := HL.out; omega) q2 x w2 r hk hr)
    have hg6 := q6
    have hlt7 : w.heap.size + 2 < W.heap.size := Boxed.lt q3
    have HB5 := Lib.hid (show ∀ X, Keep W X → X.cell? ⟨w.heap.size, 0, none⟩ = some (.func (.func 35) #[] #[]) from fun X hX => Boxed.cell ((hX.block _ (Boxed.lt q2)).trans q2))
    clear q0 q2 q3 q4 q5 q6 q7 q8 x1 x2 HSEQ HST
    gi_wp2_with fail
    have HS5 := Lib.hid (show ∀ X, Keep W X → True ∧ X.cell? ⟨w.heap.size, 0, none⟩ = some (.func (.func 35) #[] #[]) from fun X hX => ⟨trivial, HB5.out X hX⟩)
    refine plan_region_in (S := fun w' => True ∧ w'.cell? ⟨w.heap.size, 0, none⟩ = some (.func (.func 35) #[] #[])) [⟨0, 128, 2097152⟩, ⟨0, 32, 4194304⟩, ⟨0, 256, 8388608⟩, ⟨0, 512, 16777216⟩, ⟨14, 29360128, 33554432⟩, ⟨16, 33554432, 67108864⟩, ⟨49, 69206016, 134217728⟩, ⟨127, 134217856, 0⟩] (.step 1 false (.step 2 false (.step 3 false (.fork 0 (.fin [(4, true), (5, true), (6, true), (7, true)]) 4 (.fork 0 (.fin [(5, true), (6, true), (7, true)]) 5 (.fin [(0, true), (6, true), (7, true)])))))) rfl (by kernel_rfl) (by kernel_rfl) (by kernel_rfl) (fun _ _ h => h) (fun _ _ d _ _ h => by cases d <;> exact h) (HS5.out _ hWd) ?_
    try simp only [PlanR, gslot, List.getElem?_toArray, List.getElem?_cons_zero, List.getElem?_cons_succ]
    refine first_take (v := ?_) (a' := ?_) (by rfl) ?_ ?_ ?_
    rotate_left 2
    · (intro w hSw; obtain ⟨-, hSw⟩ := hSw; go_simp; with_reducible rfl)
    · (simp only [Act.put, List.setIfInBounds_toArray, List.set_cons_zero, List.set_cons_succ]; with_reducible rfl)
    try simp only [PlanR, gslot, List.getElem?_toArray, List.getElem?_cons_zero, List.getElem?_cons_succ]
    refine first_take (v := ?_) (a' := ?_) (by rfl) ?_ ?_ ?_
    rotate_left 2
    · (intro w hSw; obtain ⟨-, hSw⟩ := hSw; go_simp; with_reducible rfl)
    · (simp only [Act.put, List.setIfInBounds_toArray, List.set_cons_zero, List.set_cons_succ]; with_reducible rfl)
    try simp only [PlanR, gslot, List.getElem?_toArray, List.getElem?_cons_zero, List.getElem?_cons_succ]
    refine first_take (v := ?_) (a' := ?_) (by rfl) ?_ ?_ ?_
    rotate_left 2
    · (intro w hSw; obtain ⟨-, hSw⟩ := hSw; go_simp; with_reducible rfl)
    · (simp only [Act.put, List.setIfInBounds_toArray, List.set_cons_zero, List.set_cons_succ]; with_reducible rfl)
    try simp only [PlanR, gslot, List.getElem?_toArray, List.getElem?_cons_zero, List.getElem?_cons_succ]
    refine ⟨?_, ?_⟩
    · skip
      try simp only [PlanR, gslot, List.getElem?_toArray, List.getElem?_cons_zero, List.getElem?_cons_succ]
      refine br_make (v := .slice A1 pre.length cc) (w' := W.drew) (a' := ?_) (by rfl) (by go_simp) (HS5.out _ hWd) ?_ ?_
      rotate_left
      · (simp only [Act.put, List.setIfInBounds_toArray, List.set_cons_zero, List.set_cons_succ]; with_reducible rfl)
      try simp only [rowsOf, rowAt, gslot, List.map_cons, List.map_nil, List.getElem?_toArray, List.getElem?_cons_zero, List.getElem?_cons_succ]
      refine sq_callx (R := fun v w' => Keep W.drew w' ∧ ∃ r : SV, v = .slice r.1 r.2.1 r.2.2 ∧ StS W.drew.heap.size w' r L (fun k => op (f pre.length k) (g pre.length k))) (f := 35) (args := ?_) (by rfl) (by rfl) (by rfl) Tryd.call35 ?_ ?_ ?_
      rotate_left 1
      · (go_simp; with_reducible rfl)
      · refine HC.out.mono ?_
        rintro e w' ⟨r, rfl, hk, hst⟩
        exact ⟨_, rfl, HS5.out _ (hWd.trans hk), hk, r, rfl, hst⟩
      rintro v w2 - ⟨hk2, r, rfl, hst⟩
      obtain ⟨A6, c6, w6, hap, c7', c76, f76, -, c56, c57, hO6, hI6⟩ := HAP.out w2 r (hWd.trans hk2) hst
      simp only [Act.put, List.setIfInBounds_toArray, List.set_cons_zero, List.set_cons_succ]
      try simp only [rowsOf, rowAt, gslot, List.map_cons, List.map_nil, List.getElem?_toArray, List.getElem?_cons_zero, List.getElem?_cons_succ]
      refine sq_make (v := .slice (some ⟨w2.heap.size, 0, none⟩) 1 1) (w' := w2.alloc (.cells #[.slice r.1 r.2.1 r.2.2] 32)) (a' := ?_) (by rfl) (by go_simp) (HS5.out _ ((hWd.trans hk2).alloc _)) ?_ ?_
      rotate_left
      · (simp only [Act.put, List.setIfInBounds_toArray, List.set_cons_zero, List.set_cons_succ]; with_reducible rfl)
      refine sq_make (v := .slice A6 (pre.length + 1) c6) (w' := w6) (a' := ?_) (by rfl) (run_app (by rfl) (by rfl) (by rfl) hap) ⟨trivial, c56⟩ ?_ ?_
      rotate_left
      · (simp only [Act.put, List.setIfInBounds_toArray, List.set_cons_zero, List.set_cons_succ]; with_reducible rfl)
      refine sq_store (w' := w6.setCell ⟨w.heap.size + 2, 0, none⟩ (.slice A6 (pre.length + 1) c6)) (a' := ?_) (by rfl) (by go_simp) ⟨trivial, c57⟩ ?_ ?_
      rotate_left
      · (simp only [Act.put]; with_reducible rfl)
      refine seq_nil ?_
      exact ⟨hO6.mono (fun k _ h => ⟨⟨by omega, by omega, by omega⟩, by omega, by omega⟩), hI6⟩
    · skip
      try simp only [PlanR, gslot, List.getElem?_toArray, List.getElem?_cons_zero, List.getElem?_cons_succ]
      refine br_callx (R := fun v w' => Keep W.drew w' ∧ ∃ r : SV, v = .slice r.1 r.2.1 r.2.2 ∧ StS W.drew.heap.size w' r L (fun k => op (f pre.length k) (g pre.length k))) (f := 35) (args := ?_) (by rfl) (by rfl) (by rfl) Tryd.call35 ?_ ?_ ?_
      rotate_left 1
      · (go_simp; with_reducible rfl)
      · refine HC.out.mono ?_
        rintro e w' ⟨r, rfl, hk, hst⟩
        exact ⟨_, rfl, HS5.out _ (hWd.trans hk), hk, r, rfl, hst⟩
      rintro v w2 - ⟨hk2, r, rfl, hst⟩
      obtain ⟨A6, c6, w6, hap, c7', c76, f76, -, c56, c57, hO6, hI6⟩ := HAP.out w2 r (hWd.trans hk2) hst
      simp only [Act.put, List.setIfInBounds_toArray, List.set_cons_zero, List.set_cons_succ]
      try simp only [PlanR, gslot, List.getElem?_toArray, List.getElem?_cons_zero, List.getElem?_cons_succ]
      refine ⟨?_, ?_⟩
      · skip
        refine br_make (v := .slice A1 pre.length cc) (w' := w2) (a' := ?_) (by rfl) (by go_simp) (HS5.out _ (hWd.trans hk2)) ?_ ?_
        rotate_left
        · (simp only [Act.put, List.setIfInBounds_toArray, List.set_cons_zero, List.set_cons_succ]; with_reducible rfl)
        try simp only [rowsOf, rowAt, gslot, List.map_cons, List.map_nil, List.getElem?_toArray, List.getElem?_cons_zero, List.getElem?_cons_succ]
        refine sq_make (v := .slice (some ⟨w2.heap.size, 0, none⟩) 1 1) (w' := w2.alloc (.cells #[.slice r.1 r.2.1 r.2.2] 32)) (a' := ?_) (by rfl) (by go_simp) (HS5.out _ ((hWd.trans hk2).alloc _)) ?_ ?_
        rotate_left
        · (simp only [Act.put, List.setIfInBounds_toArray, List.set_cons_zero, List.set_cons_succ]; with_reducible rfl)
        refine sq_make (v := .slice A6 (pre.length + 1) c6) (w' := w6) (a' := ?_) (by rfl) (run_app (by rfl) (by rfl) (by rfl) hap) ⟨trivial, c56⟩ ?_ ?_
        rotate_left
        · (simp only [Act.put, List.setIfInBounds_toArray, List.set_cons_zero, List.set_cons_succ]; with_reducible rfl)
        refine sq_store (w' := w6.setCell ⟨w.heap.size + 2, 0, none⟩ (.slice A6 (pre.length + 1) c6)) (a' := ?_) (by rfl) (by go_simp) ⟨trivial, c57⟩ ?_ ?_
        rotate_left
        · (simp only [Act.put]; with_reducible rfl)
        refine seq_nil ?_
        exact ⟨hO6.mono (fun k _ h => ⟨⟨by omega, by omega, by omega⟩, by omega, by omega⟩), hI6⟩
      · skip
        refine br_make (v := .slice (some ⟨w2.heap.size, 0, none⟩) 1 1) (w' := w2.alloc (.cells #[.slice r.1 r.2.1 r.2.2] 32)) (a' := ?_) (by rfl) (by go_simp) (HS5.out _ ((hWd.trans hk2).alloc _)) ?_ ?_
        rotate_left
        · (simp only [Act.put, List.setIfInBounds_toArray, List.set_cons_zero, List.set_cons_succ]; with_reducible rfl)
        try simp only [rowsOf, rowAt, gslot, List.map_cons, List.map_nil, List.getElem?_toArray, List.getElem?_cons_zero, List.getElem?_cons_succ]
        have c7e := ((hWd.trans hk2).alloc (.cells #[.slice r.1 r.2.1 r.2.2] 32)).cell (p := ⟨w.heap.size + 2, 0, none⟩) hlt7
        rw [c7] at c7e
        refine sq_make (v := .slice A1 pre.length cc) (w' := (w2.alloc (.cells #[.slice r.1 r.2.1 r.2.2] 32))) (a' := ?_) (by rfl) (by go_simp) (HS5.out _ ((hWd.trans hk2).alloc _)) ?_ ?_
        rotate_left
        · (simp only [Act.put, List.setIfInBounds_toArray, List.set_cons_zero, List.set_cons_succ]; with_reducible rfl)
        refine sq_make (v := .slice A6 (pre.length + 1) c6) (w' := w6) (a' := ?_) (by rfl) (run_app (by rfl) (by rfl) (by rfl) hap) ⟨trivial, c56⟩ ?_ ?_
        rotate_left
        · (simp only [Act.put, List.setIfInBounds_toArray, List.set_cons_zero, List.set_cons_succ]; with_reducible rfl)
        refine sq_store (w' := w6.setCell ⟨w.heap.size + 2, 0, none⟩ (.slice A6 (pre.length + 1) c6)) (a' := ?_) (by rfl) (by go_simp) ⟨trivial, c57⟩ ?_ ?_
        rotate_left
        · (simp only [Act.put]; with_reducible rfl)
        refine seq_nil ?_
        exact ⟨hO6.mono (fun k _ h => ⟨⟨by omega, by omega, by omega⟩, by omega, by omega⟩), hI6⟩
  case done =>
    rintro D c ys W hD hlen ⟨A1, cc, gb, rs, q0, q2, q3, q4, q5, q6, q7, q8⟩ hdef
    have h1 := HS1.out
    have c7 := q3.cell
    have hO : Only (fun k => k = D) W (W.putObj D (.deferred none)) := (Only.refl _ W).putObj _ _ rfl
    have hown := ownsRow_putObj q4 (.deferred none) hdef rfl
    have hcapK : K ≤ cc := by
      rcases q4.2 with ⟨h2, h3⟩ | ⟨g2, cap2, cur2, h2, -, -, h3, -⟩
      · omega
      · cases h2; omega
    have HCAP := Lib.hid hcapK
    have hrs : rs.length = K := q0.trans hlen
    have hl2 : ys.length = rs.length := q0.symm
    rw [hl2] at hown
    obtain ⟨A2, c2, e2, hS⟩ := areaS_of_row (base := w.heap.size) (N := L) (f := fun i k => op (f i k) (g i k)) hown (fun i hi k => HOUT.out i (by omega) k) (fun i r hir => ((q8 i r hir).only hO (fun a e hk => (q8 i r hir).not_deferred hdef a e hk)).mono (by omega))
    have hkf := Only.keep q7 hO (fun k h => by omega)
    cases e2
    rw [hrs] at hS
    have HS2 := Lib.hid hS
    have HKF := Lib.hid hkf
    have hl3 : ys.length = K := hlen
    rw [hl3] at c7
    clear hcapK q0 q2 q3 q4 q5 q6 q7 q8 hown hS hkf hrs hl2 hlen hl3 HSEQ HST
    gi_wp2
    refine ⟨by simp, .inl ⟨_, _, rfl, run_takeDeferred hdef, ?_⟩⟩
    exact ⟨.slice A1 K cc, by simp [results, Tryd.f32, go_sem], A1, cc, rfl, HKF.out, HS2.out, HCAP.out⟩
  case stop => rintro D c e pre W hD hS hF _; exact hF.elim
end Go.Proofs.YtmdhbbibghpijaaDoor
