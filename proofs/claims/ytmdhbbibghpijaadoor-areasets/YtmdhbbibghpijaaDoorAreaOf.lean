/- area.Of. -/
import Derived.Test.YtmdhbbibghpijaaDoorAreaBits
namespace Go.Proofs.YtmdhbbibghpijaaDoor
open Go.RowKit Go.Shelf
attribute [local go_sem] Oper.semAt_some

theorem places_mem {m i : Nat} : i ∈ places m ↔ i < 64 ∧ m.testBit i = true := by simp [places, List.mem_filter]
/-- The area of a mask, as far as it is filled. -/
def ofF (h : Int → Bool) (pre : List Nat) : Nat → Int → Bool := fun i k => decide (i ∈ pre) && h k
/-- Between two rounds. -/
def OfI (w : World) (B1 K l p8 : Nat) (A1 : Option Addr) (m1 c1 : Nat) (h : Int → Bool) (c : Nat) (pre : List Nat) (W : World) : Prop :=
  ∃ rs : List SV, rs.length = K ∧ W.heap[w.heap.size]? = some (.cells (rs.map SV.v).toArray 32 (0, 0)) ∧ Boxed W (w.heap.size + 1) 22 (.slice (some ⟨w.heap.size, 0, none⟩) K K) ∧ Boxed W p8 32 (.slice A1 m1 c1) ∧
    StS w.heap.size W (A1, m1, c1) l h ∧ (∀ a, A1 = some a → a.block < B1) ∧ Keep w W ∧ ∀ i r, rs[i]? = some r → StS (B1 + 2 + c) W r l (ofF h pre i)
theorem set_row {w : World} {b : Nat} {cur : Array Value} {t : TypeId} {z : Nat × Nat} (h : w.heap[b]? = some (.cells cur t z)) (x : Nat) (v : Value) : (w.setCell ⟨b, x, none⟩ v).heap[b]? = some (.cells (cur.setIfInBounds x v) t z) := by
  simp only [World.setCell, Array.getElem?_modify, h, if_true, Option.map_some]
  rfl
theorem stS_own {base : Nat} {W : World} {A : Option Addr} {m c l : Nat} {zs : List Sp} {h : Int → Bool} (ho : Own W base A m c zs) (hl : zs.length = m) (hok : ∀ s ∈ zs, s.ok) (hr : Rt zs) (hq : ∀ k, hasB zs k = h k) (hm : m ≤ l) : StS base W (A, m, c) l h := by
  subst hl
  obtain ⟨g1, g2, g3⟩ := own_gives ho
  exact ⟨⟨zs, ⟨g1, g2, g3.1, hok⟩, hr, hq⟩, hm, g3⟩
theorem stS_none (base : Nat) (w : World) (l : Nat) {f : Int → Bool} (hf : ∀ k, f k = false) : StS base w (none, 0, 0) l f :=
  ⟨⟨[], arg_none w, by simp [Rt], fun k => by rw [hf k]; rfl⟩, Nat.zero_le _, (fun _ => rfl), (fun a e => by cases e)⟩
theorem madeCells_none (K : Nat) : (madeCells #[Value.slice none 0 0] K) = ((List.replicate K ((none, 0, 0) : SV)).map SV.v).toArray := by
  apply Array.toList_inj.1
  rw [List.map_replicate, toList_madeCells_one]
  rfl

set_option maxRecDepth 100000 in
set_option maxHeartbeats 2000000 in
theorem of_a {w : World} {A : Option Addr} {n0 c0 N : Nat} {h : Int → Bool} (n : Int) (m K : Nat) (hA : Bg w A n0 c0 h) (hN : n0 ≤ N) (hN2 : N ≤ 20000) (hm : m < 4294967296) (hK : (K : Int) = min (max n 0) 16) (hT : Tab w) :
    Calls Tryd.prog 15 #[.int .i64 n, .int .u32 m, .slice A n0 c0] w fun e w' => ∃ A', e = .returned (.slice A' K K) ∧ Keep w w' ∧ AreaS w.heap.size w' A' K N (fun i k => decide (i < K) && m.testBit i && h k) := by
  obtain ⟨i0, hi, hz0, hz1, hz2⟩ := info_parts infoSps
  obtain ⟨zs, hz, hq⟩ := hA
  have HT := Lib.hid hT
  have HZ := Lib.hid hz
  have HM := Lib.hid (And.intro hN hm)
  have HQ := Lib.hid hq
  have HK := Lib.hid hK
  have hk16 : K ≤ 16 := by omega
  have hmx : min (max n 0) 16 = (K : Int) := hK.symm
  have hmk : (Instr.makeSlice 22 (.int .i64 (K : Int)) (.int .i64 (K : Int))).run Tryd.prog w = .ok (.slice (some ⟨w.heap.size, 0, none⟩) K K) (w.alloc (.cells (madeCells (Value.slice none 0 0).cells (K * i0.size)) 32)) := by
    have := run_make (P := Tryd.prog) w 22 32 i0 (.slice none 0 0) Tryd.underlying22 hi hz0 .i64 .i64 (K : Int) (K : Int) (by omega) (by omega) (by rw [hz2]; omega) (by omega)
    simpa using this
  rw [hz1, Nat.mul_one] at hmk
  clear hz hq hT hN hm hK
  refine (callsIn_wide (n := 3)).1 ?_
  refine callsIn_of_wp_marks Tryd.func15 rfl trivial ?_ rfl
  simp only [Tryd.ntmps15, List.size_toArray, List.length_cons, List.length_nil, Nat.reduceAdd, Nat.reduceSub, Array.replicate_succ, Array.replicate_zero, List.push_toArray, List.append_toArray, List.nil_append, List.cons_append]
  gi_wp2_with fail
  clear hmk hmx
  have bR := World.alloc_heap_new w (.cells (madeCells #[.slice none 0 0] K) 32)
  have bO := Boxed.new (w.alloc (.cells (madeCells #[.slice none 0 0] K) 32)) 22 (.slice (some ⟨w.heap.size, 0, none⟩) K K)
  simp only [World.size_alloc] at bO
  have hkA : Keep (w.alloc (.cells (madeCells #[.slice none 0 0] K) 32)) ((w.alloc (.cells (madeCells #[.slice none 0 0] K) 32)).alloc (.cells #[.slice (some ⟨w.heap.size, 0, none⟩) K K] 22)) := (Keep.refl _).alloc _
  have bR2 := (hkA.block _ (Array.getElem?_eq_some_iff.1 bR).1).trans bR
  have hB0 : Keep w ((w.alloc (.cells (madeCells #[.slice none 0 0] K) 32)).alloc (.cells #[.slice (some ⟨w.heap.size, 0, none⟩) K K] 22)) := ((Keep.refl w).alloc _).alloc _
  have hs0 : ((w.alloc (.cells (madeCells #[.slice none 0 0] K) 32)).alloc (.cells #[.slice (some ⟨w.heap.size, 0, none⟩) K K] 22)).heap.size = w.heap.size + 2 := by simp
  clear bR hkA
  generalize (w.alloc (.cells (madeCells #[.slice none 0 0] K) 32)).alloc (.cells #[.slice (some ⟨w.heap.size, 0, none⟩) K K] 22) = W0 at *
  have hz0k := HZ.out.keep hB0
  refine ⟨trivial, (callsIn_wide.2 (make_any A n0 c0 zs W0 hz0k.prs hz0k.nil (by have := HM.out.1; omega) hz0k.ok)).mono ?_⟩
  intro e W2 hg
  obtain ⟨r, rfl, hk2, hst⟩ := gives_joins (L := N) (h := h) hg (fun k => by rw [← hasB_iff, HQ.out k]) HM.out.1
  obtain ⟨A1, m1, c1⟩ := r
  dsimp only
  have bO2 : Boxed W2 (w.heap.size + 1) 22 (.slice (some ⟨w.heap.size, 0, none⟩) K K) := (hk2.block _ (Boxed.lt bO)).trans bO
  have hcell := bO2.cell
  have hs2 := hk2.size
  have b8 := Boxed.new W2 32 (.slice A1 m1 c1)
  have b7 : Boxed (W2.alloc (.cells #[.slice A1 m1 c1] 32)) (w.heap.size + 1) 22 (.slice (some ⟨w.heap.size, 0, none⟩) K K) := Boxed.alloc bO2 _
  have c7 := b7.cell
  have hk3 : Keep W2 (W2.alloc (.cells #[.slice A1 m1 c1] 32)) := (Keep.refl _).alloc _
  have hs3 : (W2.alloc (.cells #[.slice A1 m1 c1] 32)).heap.size = W2.heap.size + 1 := by simp
  have hkl : (K : Int) = min (max (K : Int) 0) 64 := by omega
  have HB7 := Lib.hid b7
  have HB8 := Lib.hid b8
  have HK2 := Lib.hid hk2
  have HST2 := Lib.hid hst
  have HR2 := Lib.hid ((hk2.block _ (Array.getElem?_eq_some_iff.1 bR2).1).trans bR2)
  have HB0 := Lib.hid hB0
  have hlow := fun X => low_k m (K : Int) K hkl X
  obtain ⟨x0, hx0⟩ : ∃ x0, m % 2 ^ K = x0 := ⟨_, rfl⟩
  rw [hx0] at hlow
  have HX0 := Lib.hid hx0
  have HLOW := Lib.hid hlow
  clear hx0 hlow hg hst b7 b8 bO bO2 hz0k bR2 hkl hB0
  have hwm : IntKind.u64.wrap (m : Int) = (m : Int) := by rw [IntKind.wrap_u64]; have := HM.out.2; omega
  gi_wp2_with fail
  clear hcell hwm
  generalize hpw : W2.heap.size = p8 at *
  generalize W2.alloc (.cells #[.slice A1 m1 c1] 32) = W3 at *
  refine ⟨trivial, (callsIn_wide.2 (HLOW.out W3)).mono ?_⟩
  rintro e w' ⟨rfl, rfl⟩
  gi_wp2_with fail
  refine ⟨trivial, (bits_in _ x0 W3).mono ?_⟩
  rintro e w1 ⟨rfl, hw1⟩
  have hk31 : Keep W3 w1 := by rw [hw1]; exact (Keep.refl W3).alloc _
  have hs1 : w1.heap.size = p8 + 2 := by rw [hw1]; simp [hs3]
  have cx : w1.cell? ⟨p8 + 1, 0, none⟩ = some (.int .u64 x0) := by rw [hw1, ← hs3]; exact (Boxed.new W3 55 (.int .u64 x0)).cell
  have hx1 : x0 < 18446744073709551616 := by
    have h1 := HX0.out
    have h2 := HM.out.2
    have h3 := Nat.mod_le m (2 ^ K)
    omega
  have hkw : Keep w w1 := ((HB0.out.trans HK2.out).trans hk3).trans hk31
  have hTab := HT.out.below HT.out.pos hkw
  have hseq := bits_seq (3 - 1) (by omega) (p8 + 1) w.heap.size x0 hx1 HT.out.pos w1 hkw.size hTab cx
  have hpl : ∀ i, i ∈ places x0 ↔ i < K ∧ m.testBit i = true := by
    intro i
    rw [places_mem, ← HX0.out, Nat.testBit_mod_two_pow, Bool.and_eq_true, decide_eq_true_eq]
    constructor
    · rintro ⟨_, h1, h2⟩; exact ⟨h1, h2⟩
    · rintro ⟨h1, h2⟩; exact ⟨by omega, h1, h2⟩
  have hstart : ∀ c, OfI w w1.heap.size K N p8 A1 m1 c1 h c [] w1 := fun c => by
    refine ⟨List.replicate K (none, 0, 0), by simp, ?_, (hk31.block _ (Boxed.lt HB7.out)).trans HB7.out, (hk31.block _ (Boxed.lt HB8.out)).trans HB8.out, ((HST2.out.keep hk3).keep hk31).mono (by omega), ?_, hkw, ?_⟩
    · rw [← madeCells_none]
      exact ((hk3.trans hk31).block _ (Array.getElem?_eq_some_iff.1 HR2.out).1).trans HR2.out
    · intro a e
      obtain ⟨_, cur, hc⟩ := HST2.out.2.2.2 a e
      have := (Array.getElem?_eq_some_iff.1 hc).1
      omega
    · intro i r hir
      have := List.eq_of_mem_replicate (List.mem_of_getElem? hir)
      subst this
      exact stS_none _ _ _ (fun k => by simp [ofF])
  rw [hs3]
  have HSEQ := Lib.hid hseq
  have HST := Lib.hid hstart
  have HS1 := Lib.hid hs1
  have HPL := Lib.hid hpl
  have HP8 := Lib.hid (show w.heap.size + 2 ≤ p8 by omega)
  clear cx hx1 hkw hTab hseq hstart hpl hw1 hs3 c7 hk3 hk31 hk2 hs2
  gi_wp2_with fail
  refine wpIn_rangeFunc_T stays_sp rfl (by omega) (gf := 62) (lb := #[.pointer (some ⟨p8 + 1, 0, none⟩)]) rfl trivial (enters_of Tryd.func62 (by kernel_rfl) rfl) HSEQ.out
    (fun c => ⟨by have := HP8.out; have := HS1.out; omega, by have := HP8.out; have := HS1.out; omega⟩) (Keep.refl w1) (fun _ => rfl)
    (OfI w w1.heap.size K N p8 A1 m1 c1 h) (fun _ _ _ _ => False) ?sI (fun _ _ _ _ _ h _ => h) HST.out
    (fun _ pre x a' _ => pre ++ [x] <+: places x0 ∧ a' = { tmps := #[.int .i64 n, .int .u32 m, .slice A n0 c0, undef, undef, undef, .slice none 0 0, .pointer (some ⟨w.heap.size + 1, 0, none⟩), .pointer (some ⟨p8, 0, none⟩), .int .i64 x, .int .i64 n, .int .i64 (max n 0), .int .i64 K, .slice (some ⟨w.heap.size, 0, none⟩) K K, .slice A n0 c0, .slice A1 m1 c1, .int .u32 m, .int .u64 m, .slice (some ⟨w.heap.size, 0, none⟩) K K, .int .i64 K, .int .u64 x0, .func (.func 62) #[] #[.pointer (some ⟨p8 + 1, 0, none⟩)], .int .i64 x, undef, undef, undef, undef, undef, undef], defers := [] }) (fun _ _ _ _ _ _ _ h _ => h) ?assign ?body ?done ?stop
  case sI =>
    rintro c pre X Y ⟨rs, q0, q1, q2, q3, q4, q5, q6, q7⟩ ho
    have h1 := HS1.out
    have h2 := HP8.out
    refine ⟨rs, q0, (ho.block _ (Array.getElem?_eq_some_iff.1 q1).1 (by omega)).trans q1, Boxed.only q2 ho (by omega), Boxed.only q3 ho (by omega), q4.only ho (fun a e hk => by have := q5 a e; omega), q5, Only.keep q6 ho (fun k hk => by omega), fun i r hir => ?_⟩
    have h0 := q7 i r hir
    exact h0.only ho (fun a e hk => by have := (h0.2.2.2 a e).1; omega)
  case assign =>
    rintro l c pre x W K2 hi hadm hsz hK2
    gi_wp2
    exact hK2 _ _ (Only.refl _ W) (stays_sp.refl W) hi ⟨hadm, by simp⟩
  case body =>
    rintro l c pre x a' W ⟨rs, q0, q1, q2, q3, q4, q5, q6, q7⟩ ⟨hadm, rfl⟩ hsz hlen
    have h1 := HS1.out
    have h2 := HP8.out
    have hxK : x < K := ((HPL.out x).1 (hadm.mem (by simp))).1
    obtain ⟨zs2, ha2, hr2, hq2⟩ := q4.1
    have hKd : Keep W W.drew := (Keep.refl W).drew
    have hlt1 : w.heap.size < W.heap.size := (Array.getElem?_eq_some_iff.1 q1).1
    have hlt2 := Boxed.lt q2
    have hlt3 := Boxed.lt q3
    have HS5 := Lib.hid (show ∀ X, Keep W X → True ∧ X.cell? ⟨w.heap.size + 1, 0, none⟩ = some (.slice (some ⟨w.heap.size, 0, none⟩) K K) ∧ X.cell? ⟨p8, 0, none⟩ = some (.slice A1 m1 c1) from fun X hX => ⟨trivial, Boxed.cell ((hX.block _ hlt2).trans q2), Boxed.cell ((hX.block _ hlt3).trans q3)⟩)
    have HCL := Lib.hid (fun X (hX : Keep W X) => clone_sp A1 m1 c1 zs2 X (ha2.keep hX).prs ha2.nil (by have := q4.2.1; dsimp only at this; omega))
    have HLOK := Lib.hid (And.intro ha2.ok (And.intro hr2 (And.intro hq2 q4.2.1)))
    have HR := Lib.hid q1
    have HQ := Lib.hid (And.intro q0 (And.intro q2 (And.intro q3 (And.intro q4 (And.intro q5 (And.intro q6 q7))))))
    have hxi : (x : Int) < (K : Int) := by omega
    have hx0 : (0 : Int) ≤ (x : Int) := by omega
    have hfro : ∀ X, Keep W X → X.frozen? ⟨w.heap.size, x, none⟩ = false ∧ (X.cell? ⟨w.heap.size, x, none⟩).isSome := fun X hX => by
      have := (hX.block _ hlt1).trans HR.out
      refine ⟨by simp [World.frozen?, this], ?_⟩
      simp [World.cell?, this, q0, hxK]
    have HFRO := Lib.hid hfro
    clear q0 q1 q2 q3 q4 q5 q6 q7 ha2 hr2 hq2 hadm HSEQ HST hfro
    gi_wp2_with fail
    refine seq_region_in (S := fun w' => True ∧ w'.cell? ⟨w.heap.size + 1, 0, none⟩ = some (.slice (some ⟨w.heap.size, 0, none⟩) K K) ∧ w'.cell? ⟨p8, 0, none⟩ = some (.slice A1 m1 c1)) [⟨0, 128, 8388608⟩, ⟨0, 512, 16777216⟩, ⟨0, 256, 33554432⟩, ⟨4, 33554432, 67108864⟩, ⟨15, 25165824, 134217728⟩, ⟨31, 201326592, 0⟩] [(0, false), (1, false), (2, false), (3, true), (4, false), (5, true)] rfl (by kernel_rfl) (by kernel_rfl) (by kernel_rfl) (fun _ _ h => h) (fun _ _ d _ _ h => by cases d <;> exact h) (HS5.out _ hKd) ?_
    simp only [rowsOf, rowAt, gslot, List.map_cons, List.map_nil, List.getElem?_toArray, List.getElem?_cons_zero, List.getElem?_cons_succ]
    repeat (first
      | (refine seq_take (v := ?_) (a' := ?_) (by rfl) ?_ ?_ ?_
         rotate_left 2
         · (intro w hSw; obtain ⟨-, hSw⟩ := hSw; go_split_ands; go_simp; with_reducible rfl)
         · (simp only [Act.put, List.setIfInBounds_toArray, List.set_cons_zero, List.set_cons_succ]; with_reducible rfl)))
    refine sq_callx (R := fun v w' => ∃ A' c', v = .slice A' m1 c' ∧ Own w' W.drew.heap.size A' m1 c' zs2 ∧ Keep W w') (f := 38) (args := ?_) (by rfl) (by rfl) (by rfl) Tryd.call38 ?_ ?_ ?_
    rotate_left 1
    · (go_simp; with_reducible rfl)
    · refine (HCL.out W.drew hKd).mono ?_
      rintro e w' ⟨A', c', rfl, ho, hk⟩
      exact ⟨_, rfl, HS5.out _ (hKd.trans hk), A', c', rfl, ho, hKd.trans hk⟩
    rintro v w2 - ⟨A', c', rfl, ho, hkw⟩
    simp only [Act.put, List.setIfInBounds_toArray, List.set_cons_zero, List.set_cons_succ]
    repeat (first
      | (refine seq_take (v := ?_) (a' := ?_) (by rfl) ?_ ?_ ?_
         rotate_left 2
         · (intro w hSw; obtain ⟨-, hSw⟩ := hSw; go_split_ands; go_simp; with_reducible rfl)
         · (simp only [Act.put, List.setIfInBounds_toArray, List.set_cons_zero, List.set_cons_succ]; with_reducible rfl)))
    obtain ⟨q0, q2, q3, q4, q5, q6, q7⟩ := HQ.out
    obtain ⟨l1, l2, l3, l4⟩ := HLOK.out
    obtain ⟨hf, hc⟩ := HFRO.out w2 hkw
    obtain ⟨u, hu⟩ := Option.isSome_iff_exists.1 hc
    have hrow := (hkw.block _ hlt1).trans HR.out
    have hO : Only (fun k => k = w.heap.size) W (w2.setCell ⟨w.heap.size, x, none⟩ (.slice A' m1 c')) := (Only.of_keep _ hkw).setCell _ _ rfl
    have hO2 : Only (fun k => k = w.heap.size) w2 (w2.setCell ⟨w.heap.size, x, none⟩ (.slice A' m1 c')) := (Only.refl _ w2).setCell _ _ rfl
    have hsz2 := hkw.size
    have hnot : ∀ a, A' = some a → ¬ a.block = w.heap.size := fun a e hk => by
      have := (own_gives (r := zs2) (by rw [show zs2.length = m1 by have := ho.1; rw [prc_length] at this; omega]; exact ho)).2.2.2 a e
      have h3 : W.drew.heap.size = W.heap.size := rfl
      omega
    refine sq_store (w' := w2.setCell ⟨w.heap.size, x, none⟩ (.slice A' m1 c')) (a' := ?_) (by rfl) (by go_simp) ⟨trivial, Boxed.cell (Boxed.only q2 hO (by omega)), Boxed.cell (Boxed.only q3 hO (by omega))⟩ ?_ ?_
    rotate_left
    · (simp only [Act.put]; with_reducible rfl)
    refine seq_nil ?_
    refine ⟨hO.mono (fun k _ h => ⟨by omega, by omega, by omega⟩), spStay_of_only hO (fun k cur z h e => by subst h; rw [HR.out] at e; cases e), rs.set x (A', m1, c'), by simp [q0], ?_, Boxed.only q2 hO (by omega), Boxed.only q3 hO (by omega), q4.only hO (fun a e hk => q4.not_row HR.out a e hk), q5, Only.keep q6 hO (fun k h => by omega), ?_⟩
    · rw [set_row hrow x _, List.map_set, List.setIfInBounds_toArray]
      rfl
    · intro i r hir
      by_cases hix : i = x
      · subst hix
        rw [List.getElem?_set_self (by omega)] at hir
        obtain rfl := Option.some.inj hir
        have h0 : StS (w1.heap.size + 2 + c) w2 (A', m1, c') N (ofF h (pre ++ [i]) i) := (stS_own ho (by have := ho.1; rw [prc_length] at this; omega) l1 l2 (fun k => by rw [l3 k]; simp [ofF]) l4).mono hsz
        exact h0.only hO2 (fun a e hk => hnot a e hk)
      · rw [List.getElem?_set_ne (fun e => hix e.symm)] at hir
        have h0 := q7 i r hir
        have h3 : ofF h (pre ++ [x]) i = ofF h pre i := by
          funext k
          unfold ofF
          congr 1
          simp [hix]
        rw [h3]
        exact h0.only hO (fun a e hk => h0.not_row HR.out a e hk)
  case done =>
    rintro D c ys W hD hlen ⟨rs, q0, q1, q2, q3, q4, q5, q6, q7⟩ hdef
    have h1 := HS1.out
    have h2 := HP8.out
    have c7 := q2.cell
    have hO : Only (fun k => k = D) W (W.putObj D (.deferred none)) := (Only.refl _ W).putObj _ _ rfl
    have hkf := Only.keep q6 hO (fun k h => by omega)
    have hlt1 : w.heap.size < W.heap.size := (Array.getElem?_eq_some_iff.1 q1).1
    have hrow := (hO.block _ hlt1 (by omega)).trans q1
    have hS : AreaS w.heap.size (W.putObj D (.deferred none)) (some ⟨w.heap.size, 0, none⟩) K N (fun i k => decide (i < K) && m.testBit i && h k) := by
      refine ⟨fun i hi k => by rw [decide_eq_false (by omega)]; rfl, fun i hi => ?_⟩
      have hir : rs[i]? = some rs[i] := List.getElem?_eq_getElem (by omega)
      have h0 := q7 i _ hir
      refine ⟨w.heap.size, 0, rs[i], rfl, (Array.getElem?_eq_some_iff.1 hrow).1, ?_, ?_⟩
      · simp [World.cell?, hrow, hir]
      · have h4 : ofF h ys i = fun k => decide (i < K) && m.testBit i && h k := by
          funext k
          unfold ofF
          congr 1
          have := HPL.out i
          rw [hlen]
          cases hm : m.testBit i <;> simp_all
        rw [← h4]
        exact (h0.only hO (fun a e hk => h0.not_deferred hdef a e hk)).mono (by omega)
    have HS2 := Lib.hid hS
    have HKF := Lib.hid hkf
    clear q0 q1 q2 q3 q4 q5 q6 q7 hrow hS hkf hlen HSEQ HST
    gi_wp2
    refine ⟨by simp, .inl ⟨_, _, rfl, run_takeDeferred hdef, ?_⟩⟩
    exact ⟨.slice (some ⟨w.heap.size, 0, none⟩) K K, by simp [results, Tryd.f15, go_sem], _, rfl, HKF.out, HS2.out⟩
  case stop => rintro D c e pre W hD hS hF _; exact hF.elim
end Go.Proofs.YtmdhbbibghpijaaDoor
