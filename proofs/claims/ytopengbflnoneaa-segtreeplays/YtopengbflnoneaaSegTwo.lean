/- Two trees side by side; rows of pairs that are the same. -/
import Derived.Test.YtopengbflnoneaaSegSpansM
import Derived.Test.YtopengbflnoneaaSegPairs
import Derived.BigQuiet
namespace Go.Proofs.Ytopengbflnoneaa
open Go.RowKit

/-- Two trees, in blocks ba and bb; blocks of X are neither's. -/
def Two (W0 : World) (ba bb lim na : Nat) (ta : Sh) (ka : List (Int × Int)) (nb : Nat) (tb : Sh) (kb : List (Int × Int)) (X : Nat → Prop) (w : World) : Prop :=
  ∃ (A : Option Addr) (c : Nat) (xs : List Nd) (B : Option Addr) (d : Nat) (ys : List Nd), Ar w ba lim A c xs ∧ Ar w bb lim B d ys ∧ (Tr xs 32 0 ta ka ∧ Num xs ta 1 ∧ xs.length = na) ∧ (Tr ys 32 0 tb kb ∧ Num ys tb 1 ∧ ys.length = nb) ∧
    Keep W0 w ∧ W0.heap.size ≤ ba ∧ W0.heap.size ≤ bb ∧ ba ≠ bb ∧ (Value.slice A xs.length c).ownBlock ≠ some bb ∧ (Value.slice B ys.length d).ownBlock ≠ some ba ∧ (∀ g, (Value.slice A xs.length c).ownBlock = some g → (Value.slice B ys.length d).ownBlock ≠ some g) ∧
    ∀ k, X k → k < w.heap.size ∧ (k ≠ ba ∧ (Value.slice A xs.length c).ownBlock ≠ some k) ∧ (k ≠ bb ∧ (Value.slice B ys.length d).ownBlock ≠ some k)
section
variable {W0 w w' : World} {ba bb lim na nb : Nat} {ta tb : Sh} {ka kb : List (Int × Int)} {X X' : Nat → Prop}
theorem Two.swap (h : Two W0 ba bb lim na ta ka nb tb kb X w) : Two W0 bb ba lim nb tb kb na ta ka X w := by
  obtain ⟨A, c, xs, B, d, ys, h1, h2, h3, h4, h5, h6, h7, h8, h9, h10, h11, h12⟩ := h
  exact ⟨B, d, ys, A, c, xs, h2, h1, h4, h3, h5, h7, h6, h8.symm, h10, h9, fun g e1 e2 => h11 g e2 e1, fun k hk => ⟨(h12 k hk).1, (h12 k hk).2.2, (h12 k hk).2.1⟩⟩
theorem Two.mono (h : Two W0 ba bb lim na ta ka nb tb kb X w) (hX : ∀ k, X' k → X k) : Two W0 ba bb lim na ta ka nb tb kb X' w := by
  obtain ⟨A, c, xs, B, d, ys, h1, h2, h3, h4, h5, h6, h7, h8, h9, h10, h11, h12⟩ := h
  exact ⟨A, c, xs, B, d, ys, h1, h2, h3, h4, h5, h6, h7, h8, h9, h10, h11, fun k hk => h12 k (hX k hk)⟩
theorem Two.keepW (h : Two W0 ba bb lim na ta ka nb tb kb X w) : Keep W0 w := by
  obtain ⟨A, c, xs, B, d, ys, h1, h2, h3, h4, h5, _⟩ := h
  exact h5
theorem Two.keep (h : Two W0 ba bb lim na ta ka nb tb kb X w) (hk : Keep w w') : Two W0 ba bb lim na ta ka nb tb kb (fun k => X k ∨ (w.heap.size ≤ k ∧ k < w'.heap.size)) w' := by
  obtain ⟨A, c, xs, B, d, ys, h1, h2, h3, h4, h5, h6, h7, h8, h9, h10, h11, h12⟩ := h
  refine ⟨A, c, xs, B, d, ys, h1.keep hk, h2.keep hk, h3, h4, h5.trans hk, h6, h7, h8, h9, h10, h11, fun k hk' => ?_⟩
  rcases hk' with hk' | ⟨q1, q2⟩
  · obtain ⟨r1, r2⟩ := h12 k hk'
    exact ⟨Nat.lt_of_lt_of_le r1 hk.size, r2⟩
  · have l1 := h1.lt
    have l2 := h2.lt
    refine ⟨q2, ⟨by omega, fun e => ?_⟩, by omega, fun e => ?_⟩
    · have := (h1.own.lt k e).2; omega
    · have := (h2.own.lt k e).2; omega
theorem Two.kept (h : Two W0 ba bb lim na ta ka nb tb kb X w) (hk : Keep w w') : Two W0 ba bb lim na ta ka nb tb kb X w' := (h.keep hk).mono (fun _ h => .inl h)
/-- The first one alone; whatever it does, both stand. -/
theorem Two.fst (h : Two W0 ba bb lim na ta ka nb tb kb X w) : ∃ Pr : Nat → Prop, Tre W0 ba lim na ta ka Pr w ∧ (∀ k, X k → Pr k) ∧
    ∀ (n' : Nat) (t' : Sh) (k' : List (Int × Int)) (w' : World), Tre W0 ba lim n' t' k' Pr w' → Only (fun k => ¬ Pr k) w w' → Two W0 ba bb lim n' t' k' nb tb kb X w' := by
  obtain ⟨A, c, xs, B, d, ys, h1, h2, h3, h4, h5, h6, h7, h8, h9, h10, h11, h12⟩ := h
  refine ⟨fun k => (k = bb ∨ (Value.slice B ys.length d).ownBlock = some k) ∨ X k, ⟨xs, ⟨A, c, h1, h5, h6, fun k hk => ?_⟩, h3⟩, fun k hk => .inr hk, ?_⟩
  · rcases hk with (rfl | hk) | hk
    · exact ⟨h2.lt, fun e => h8 e.symm, h9⟩
    · refine ⟨(h2.own.lt k hk).2, fun e => h10 (e ▸ hk), fun e => h11 k e hk⟩
    · exact ⟨(h12 k hk).1, (h12 k hk).2.1⟩
  · rintro n' t' k' w' ⟨xs', ⟨A', c', q1, q2, q3, q4⟩, q5⟩ ho
    have hb := q4 bb (.inl (.inl rfl))
    refine ⟨A', c', xs', B, d, ys, q1, h2.only ho (fun hn => hn (.inl (.inl rfl))) (fun g hg hn => hn (.inl (.inr hg))), q5, h4, q2, q3, h7, h8, hb.2.2, h10, fun g e1 e2 => (q4 g (.inl (.inr e2))).2.2 e1, fun k hk => ?_⟩
    have := q4 k (.inr hk)
    exact ⟨this.1, this.2, (h12 k hk).2.2⟩
end
theorem two_make {W0 W1 W2 : World} {ba bb lim na nb : Nat} {ta tb : Sh} {ka kb : List (Int × Int)} {Pa Pb : Nat → Prop} (ha : Tre W0 ba lim na ta ka Pa W1) (hb : Tre W1 bb lim nb tb kb Pb W2) : Two W0 ba bb lim na ta ka nb tb kb (fun _ => False) W2 := by
  obtain ⟨xs, ⟨A, c, a1, a2, a3, -⟩, a4⟩ := ha
  obtain ⟨ys, ⟨B, d, b1, b2, b3, -⟩, b4⟩ := hb
  have l1 := a1.lt
  have s1 := a2.size
  have hg : ∀ g, (Value.slice A xs.length c).ownBlock = some g → g < W1.heap.size := fun g e => (a1.own.lt g e).2
  refine ⟨A, c, xs, B, d, ys, a1.keep b2, b1, a4, b4, a2.trans b2, a3, by omega, by omega, fun e => ?_, b1.block_ne ba (by omega), fun g e => b1.block_ne g (by have := hg g e; omega), fun _ h => h.elim⟩
  have := hg bb e
  omega
theorem prFields : ∃ f0 f1 : Field, Try.prog.underlying 61 = some (.struct #[f0, f1]) ∧ f0.offset = 0 ∧ f1.offset = 1 ∧ f0.type = 32 ∧ f1.type = 2 ∧ (f0.name != "_") = true ∧ (f1.name != "_") = true :=
  ⟨_, _, Try.underlying61, by kernel_rfl, by kernel_rfl, by kernel_rfl, by kernel_rfl, by kernel_rfl, by kernel_rfl⟩
theorem equal_pr (p : Int × Int) (w : World) : (Op.equalIn 10000 61 (.agg #[.int .u32 p.1, .int .i64 p.2]) (.agg #[.int .u32 p.1, .int .i64 p.2])).run Try.prog w = .ok true w := by
  obtain ⟨f0, f1, e, o0, o1, t0, t1, n0, n1⟩ := prFields
  have h := run_equalIn_struct (P := Try.prog) w 9999 61 #[.int .u32 p.1, .int .i64 p.2] #[.int .u32 p.1, .int .i64 p.2] (by kernel_rfl) (by kernel_rfl)
  rw [h]
  have e2 : (Try.prog.fieldsOf 61).toList = [f0, f1] := by simp [Program.fieldsOf, e]
  rw [e2]
  simp [Op.eqFields, o0, o1, t0, t1, bne_iff_ne.1 n0, bne_iff_ne.1 n1, go_sem]
/-- A slice of pairs, wherever it lies. -/
def PL (w : World) (A : Option Addr) (n : Nat) (kvs : List (Int × Int)) : Prop :=
  kvs.length = n ∧ ∀ j p, kvs[j]? = some p → ∃ b off, A = some ⟨b, off, none⟩ ∧ b < w.heap.size ∧ w.cell? ⟨b, off + j * 2, none⟩ = some (.int .u32 p.1) ∧ w.cell? ⟨b, off + j * 2 + 1, none⟩ = some (.int .i64 p.2)
theorem PL.of_row {w : World} {base : Nat} {A : Option Addr} {L c : Nat} {kvs : List (Int × Int)} (h : w.ownsRow base 61 2 (.slice A L c) L (prs kvs)) (hl : kvs.length = L) : PL w A L kvs := by
  refine ⟨hl, fun j p hp => ?_⟩
  have hj := (List.getElem?_eq_some_iff.1 hp).1
  obtain ⟨gp, capp, hA⟩ : ∃ gp cap, Value.slice A L c = .slice (some ⟨gp, 0, none⟩) L cap := by
    rcases h.2 with ⟨e, h0⟩ | ⟨g, cap, cur, e, _⟩
    · exfalso; simp at e; omega
    · exact ⟨g, cap, e⟩
  cases hA
  obtain ⟨e0, e1⟩ := prs_get kvs j p hp
  have hpl : (prs kvs).length = L * 2 := by rw [prs_length, hl]
  refine ⟨gp, 0, rfl, (h.lt gp rfl).2, ?_, ?_⟩
  · rw [Nat.zero_add]; exact (h.cellAt (j * 2) (by omega)).trans e0
  · rw [Nat.zero_add]; exact (h.cellAt (j * 2 + 1) (by omega)).trans e1
theorem PL.only {w w' : World} {S : Nat → Prop} {A : Option Addr} {n : Nat} {kvs : List (Int × Int)} (h : PL w A n kvs) (ho : Only S w w') (hS : ∀ b off, A = some ⟨b, off, none⟩ → ¬ S b) : PL w' A n kvs := by
  refine ⟨h.1, fun j p hp => ?_⟩
  obtain ⟨b, off, e, hb, c0, c1⟩ := h.2 j p hp
  have hx := ho.block b hb (hS b off e)
  refine ⟨b, off, e, Nat.lt_of_lt_of_le hb ho.size, ?_, ?_⟩
  · rw [← c0]; unfold World.cell?; rw [hx]
  · rw [← c1]; unfold World.cell?; rw [hx]
theorem PL.keep {w w' : World} {A : Option Addr} {n : Nat} {kvs : List (Int × Int)} (h : PL w A n kvs) (hk : Keep w w') : PL w' A n kvs := h.only (Only.of_keep (fun _ => False) hk) (fun _ _ _ h => h)
set_option maxRecDepth 100000 in
set_option maxHeartbeats 2000000 in
theorem same_yes (A : Option Addr) (n c : Nat) (B : Option Addr) (d : Nat) (kvs : List (Int × Int)) (w : World) (h1 : PL w A n kvs) (h2 : PL w B n kvs) (hn : n ≤ 1000000) :
    Calls Try.prog 22 #[.slice A n c, .slice B n d] w fun e w' => e = .returned (.bool true) ∧ Keep w w' := by
  have H1 := Lib.hid h1
  have H2 := Lib.hid h2
  clear h1 h2
  go_enter Try.func22, Try.ntmps22
  go_wp2_with fail
  go_loopw [13] (fun i X => ∃ j : Nat, i = .int .i64 j ∧ j ≤ n ∧ Hid (Keep w X)) (fun i _ => n - (intOf i).toNat)
  case atStart => exact ⟨0, rfl, by omega, Lib.hid (Keep.refl w)⟩
  case round =>
    obtain ⟨j, rfl, hj, HK⟩ := hrel
    by_cases hlt : j < n
    · obtain ⟨p, hp⟩ : ∃ p, kvs[j]? = some p := ⟨_, List.getElem?_eq_getElem (by rw [H1.out.1]; exact hlt)⟩
      obtain ⟨b, off, rfl, hb, c0, c1⟩ := (H1.out.keep HK.out).2 j p hp
      obtain ⟨b2, off2, rfl, hb2, d0, d1⟩ := (H2.out.keep HK.out).2 j p hp
      have hjI : (j : Int) < (n : Int) := by omega
      have q1 := equal_pr p
      clear hp hb hb2
      go_wp2_with fail
      go_quiet (fail)
      have HKE := Lib.hid (HK.out.trans ((Keep.refl wr).drewN nq))
      clear c0 c1 d0 d1 q1
      go_wp2
      go_roundw
      case rel => exact ⟨j + 1, by go_num, by omega, HKE⟩
      case measure => simp [intOf]; omega
    · have hje : j = n := by omega
      subst hje
      have hjI : ¬ (j : Int) < (j : Int) := by omega
      go_wp2
      go_ret
      exact ⟨rfl, HK.out⟩
section
variable {W0 w w' : World} {ba bb lim na nb : Nat} {ta tb : Sh} {ka kb : List (Int × Int)} {X : Nat → Prop}
theorem two_kill (h : Two W0 ba bb lim na ta ka nb tb kb X w) (hl : ka.length ≤ 1000000) (p q : Int) :
    Calls Try.prog 17 #[.pointer (some ⟨ba, 0, none⟩), .agg #[.int .u32 p, .int .u32 q]] w fun e w' => e = .returned (.int .i64 ((ka.filter (inS p q)).length : Nat)) ∧ Two W0 ba bb lim na ta (ka.filter (fun x => !inS p q x)) nb tb kb X w' ∧ Only (fun k => ¬ X k) w w' := by
  obtain ⟨Pr, hT, hX, hback⟩ := h.fst
  have hk := tre_kill hT hl p q
  have hc := (is_part hT.range hl (inS p q)).c
  rw [vs_length] at hc
  rw [hc] at hk
  refine hk.mono ?_
  rintro e w' ⟨rfl, h1, h2⟩
  exact ⟨rfl, hback _ _ _ _ h1 h2, h2.mono (fun k _ hn hx => hn (hX k hx))⟩
theorem two_put (h : Two W0 ba bb lim na ta ka nb tb kb X w) (hl : ka.length ≤ 999999) {key v : Int} (k0 : 0 ≤ key) (k1 : key ≤ 4294967295) (hv : inI v) (hlim : na + lack 32 0 key ta ≤ lim) :
    Calls Try.prog 13 #[.pointer (some ⟨ba, 0, none⟩), .int .u32 key, .int .i64 v] w fun e w' => e = .returned (.int .i64 0) ∧ Two W0 ba bb lim (na + lack 32 0 key ta) (grow 32 0 key na ta) (insK key v ka) nb tb kb X w' ∧ Only (fun k => ¬ X k) w w' := by
  obtain ⟨Pr, hT, hX, hback⟩ := h.fst
  refine (tre_put_yes hT hl k0 k1 hv hlim).mono ?_
  rintro e w' ⟨rfl, h1, h2⟩
  exact ⟨rfl, hback _ _ _ _ h1 h2, h2.mono (fun k _ hn hx => hn (hX k hx))⟩
theorem two_fold (h : Two W0 ba bb lim na ta ka nb tb kb X w) (hl : ka.length ≤ 1000000) (p q : Int) :
    Calls Try.prog 18 #[.pointer (some ⟨ba, 0, none⟩), .agg #[.int .u32 p, .int .u32 q]] w fun e w' => e = .returned (.agg #[.int .i64 (ofL (vs (ka.filter (inS p q)))).c, .int .i64 (ofL (vs (ka.filter (inS p q)))).s, .int .i64 (ofL (vs (ka.filter (inS p q)))).mn, .int .i64 (ofL (vs (ka.filter (inS p q)))).mx]) ∧ Keep w w' := by
  obtain ⟨Pr, hT, hX, hback⟩ := h.fst
  exact tre_fold hT hl p q
theorem two_cnt (h : Two W0 ba bb lim na ta ka nb tb kb X w) (hl : ka.length ≤ 1000000) (p q : Int) : (ofL (vs (ka.filter (inS p q)))).c = ((ka.filter (inS p q)).length : Nat) := by
  obtain ⟨Pr, hT, hX, hback⟩ := h.fst
  have hc := (is_part hT.range hl (inS p q)).c
  rwa [vs_length] at hc
theorem two_range (h : Two W0 ba bb lim na ta ka nb tb kb X w) : ∀ p ∈ ka, 0 ≤ p.1 ∧ p.1 < 4294967296 ∧ inI p.2 := by
  obtain ⟨Pr, hT, hX, hback⟩ := h.fst
  exact hT.range
theorem two_nodes (h : Two W0 ba bb lim na ta ka nb tb kb X w) : Calls Try.prog 20 #[.pointer (some ⟨ba, 0, none⟩)] w fun e w' => e = .returned (.int .i64 na) ∧ w = w' := by
  obtain ⟨Pr, hT, hX, hback⟩ := h.fst
  exact tre_nodes hT
theorem two_pairs (h : Two W0 ba bb lim na ta ka nb tb kb X w) (hl : ka.length ≤ 1000) :
    Calls Try.prog 23 #[.pointer (some ⟨ba, 0, none⟩), .int .i64 1000] w fun e w' => ∃ A c, e = .returned (.slice A ka.length c) ∧ PL w' A ka.length ka ∧ Keep w w' := by
  obtain ⟨Pr, hT, hX, hback⟩ := h.fst
  refine (pairs_some hT (by omega) 1000 (by decide) (by decide)).mono ?_
  rintro e w' ⟨A, c, rfl, hr, hk⟩
  rw [List.take_of_length_le hl] at hr ⊢
  exact ⟨A, c, rfl, PL.of_row hr rfl, hk⟩
end
end Go.Proofs.Ytopengbflnoneaa
