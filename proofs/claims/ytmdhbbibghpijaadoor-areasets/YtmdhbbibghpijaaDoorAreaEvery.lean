/- area.everyLabel: Within, Same. -/
import Derived.Test.YtmdhbbibghpijaaDoorAreaPairs
namespace Go.Proofs.YtmdhbbibghpijaaDoor
open Go.RowKit Go.Shelf
attribute [local go_sem] Oper.semAt_some

theorem pairs_in (A : Option Addr) (n c : Nat) (B : Option Addr) (m d : Nat) (w : World) :
    CallsIn Fence.wide (3 - 1) Tryd.prog 58 #[.slice A n c, .slice B m d] w fun e w' => e = .returned (.func (.func 73) #[] #[.pointer (some ⟨w.heap.size, 0, none⟩), .pointer (some ⟨w.heap.size + 1, 0, none⟩)]) ∧ w' = (w.alloc (.cells #[.slice A n c] 22)).alloc (.cells #[.slice B m d] 22) :=
  callsIn_wide.2 (pairs_at A n c B m d w)
/-- What pairs answers goes through both. -/
theorem pairs_seq (n : Nat) (hn : 1 ≤ n) {w0 w : World} {p1 p2 : Nat} {A B : Option Addr} {na ca nb cb N M : Nat} {f g : Nat → Int → Bool} (K : Nat) (hK : K = max na nb)
    (hA : Area w0 A na N f) (hB : Area w0 B nb M g) (hk : Keep w0 w) (hl : K ≤ 1000000)
    (c1 : w.cell? ⟨p1, 0, none⟩ = some (.slice A na ca)) (c2 : w.cell? ⟨p2, 0, none⟩ = some (.slice B nb cb)) :
    SeqX Fence.wide n Tryd.prog 73 #[.pointer (some ⟨p1, 0, none⟩), .pointer (some ⟨p2, 0, none⟩)] encP (AdmP w0 N M f g) (TP w0.heap.size p1 p2) (fun xs => xs.length = K) (fun pre => pre.length ≤ K) K w := by
  intro l J Jx W hW hJ _ hY h0
  exact pairs1_in n hn l J Jx (w0 := w0) K hK (fun s X Y h1 _ h3 => hJ 0 s X Y h1 (h3.mono (fun _ _ h => h.elim))) (hY 0)
    hA hB (hk.trans hW) hl ((hW.cell (p := ⟨p1, 0, none⟩) (World.block_lt_of_cell? w _ c1)).trans c1) ((hW.cell (p := ⟨p2, 0, none⟩) (World.block_lt_of_cell? w _ c2)).trans c2) (h0 0)

/-- Is it so of the first q labels? -/
def upTo (R : (Int → Bool) → (Int → Bool) → Prop) (f g : Nat → Int → Bool) (q : Nat) : Prop := ∀ i, i < q → R (f i) (g i)
/-- Between two rounds. -/
def EvI (w : World) (fv : Value) (R : (Int → Bool) → (Int → Bool) → Prop) (f g : Nat → Int → Bool) (pre : List (SV × SV)) (W : World) : Prop :=
  Boxed W w.heap.size 49 fv ∧ Boxed W (w.heap.size + 1) 4 (.bool false) ∧ Keep w W ∧ upTo R f g pre.length
def EvX (w : World) (R : (Int → Bool) → (Int → Bool) → Prop) (f g : Nat → Int → Bool) (K : Nat) (e : Code) (_pre : List (SV × SV)) (W : World) : Prop :=
  e = .ret ∧ Boxed W (w.heap.size + 1) 4 (.bool false) ∧ Keep w W ∧ ∃ i, i < K ∧ ¬ R (f i) (g i)
set_option maxRecDepth 100000 in
set_option maxHeartbeats 2000000 in
theorem every_within (R : (Int → Bool) → (Int → Bool) → Prop) {w : World} {A B : Option Addr} {na ca nb cb N M : Nat} {f g : Nat → Int → Bool} (v : Bool) (hA : Area w A na N f) (hB : Area w B nb M g) (hl : max na nb ≤ 1000000)
    (hF : ∀ (X : World) (x y : SV) (i : Nat) (b : Bool), BgS X x N (f i) → BgS X y M (g i) → (b = true ↔ R (f i) (g i)) → Calls Tryd.prog 45 #[.slice x.1 x.2.1 x.2.2, .slice y.1 y.2.1 y.2.2] X fun e w' => e = .returned (.bool b) ∧ Keep X w')
    (hv : v = true ↔ ∀ i, i < max na nb → R (f i) (g i)) :
    Calls Tryd.prog 44 #[.slice A na ca, .slice B nb cb, .func (.func 45) #[] #[]] w fun e w' => e = .returned (.bool v) ∧ Keep w w' := by
  obtain ⟨K, hK⟩ : ∃ K, K = max na nb := ⟨_, rfl⟩
  rw [← hK] at hv hl
  have HF := Lib.hid hF
  have HV := Lib.hid hv
  have HA := Lib.hid hA
  have HB := Lib.hid hB
  clear hF hv hA hB
  refine (callsIn_wide (n := 3)).1 ?_
  refine callsIn_of_wp_marks Tryd.func44 rfl trivial ?_ rfl
  simp only [Tryd.ntmps44, List.size_toArray, List.length_cons, List.length_nil, Nat.reduceAdd, Nat.reduceSub, Array.replicate_succ, Array.replicate_zero, List.push_toArray, List.append_toArray, List.nil_append, List.cons_append]
  gi_wp2_with fail
  have bF := (Boxed.new w 49 (.func (.func 45) #[] #[])).alloc (.cells #[.bool false] 4)
  have bO := Boxed.new (w.alloc (.cells #[.func (.func 45) #[] #[]] 49)) 4 (.bool false)
  simp only [World.size_alloc] at bO
  have hB0 : Keep w ((w.alloc (.cells #[.func (.func 45) #[] #[]] 49)).alloc (.cells #[.bool false] 4)) := ((Keep.refl w).alloc _).alloc _
  have hs0 : ((w.alloc (.cells #[.func (.func 45) #[] #[]] 49)).alloc (.cells #[.bool false] 4)).heap.size = w.heap.size + 2 := by simp
  generalize (w.alloc (.cells #[.func (.func 45) #[] #[]] 49)).alloc (.cells #[.bool false] 4) = W0 at *
  refine ⟨trivial, (pairs_in A na ca B nb cb W0).mono ?_⟩
  rintro e w1 ⟨rfl, hw1⟩
  have hk1 : Keep W0 w1 := by rw [hw1]; exact ((Keep.refl W0).alloc _).alloc _
  have hs1 : w1.heap.size = w.heap.size + 4 := by rw [hw1]; simp [hs0]
  have cp1 : w1.cell? ⟨w.heap.size + 2, 0, none⟩ = some (.slice A na ca) := by rw [hw1, ← hs0]; exact ((Boxed.new W0 22 (.slice A na ca)).alloc _).cell
  have cp2 : w1.cell? ⟨w.heap.size + 3, 0, none⟩ = some (.slice B nb cb) := by
    have := (Boxed.new (W0.alloc (.cells #[.slice A na ca] 22)) 22 (.slice B nb cb)).cell
    simp only [World.size_alloc, hs0] at this
    rw [hw1]; exact this
  have hkw := hB0.trans hk1
  have hseq := pairs_seq (3 - 1) (by omega) K hK HA.out HB.out hkw hl cp1 cp2
  have hstart : EvI w (.func (.func 45) #[] #[]) R f g [] w1 := ⟨(hk1.block _ (by omega)).trans bF, (hk1.block _ (by omega)).trans bO, hkw, fun i hi => by simp at hi⟩
  rw [hs0]
  have HSEQ := Lib.hid hseq
  have HST := Lib.hid hstart
  have HS1 := Lib.hid hs1
  clear cp1 cp2 hw1 bF bO hB0 hs0 hk1 hseq hstart hkw
  gi_wp2_with fail
  refine wpIn_rangeFunc_X rfl (by omega) (gf := 73) (lb := #[.pointer (some ⟨w.heap.size + 2, 0, none⟩), .pointer (some ⟨w.heap.size + 3, 0, none⟩)]) rfl trivial (enters_of Tryd.func73 (by kernel_rfl) rfl) HSEQ.out
    (fun c => ⟨⟨by omega, by omega, by omega⟩, by omega, by omega, by omega⟩) (Keep.refl w1) (fun _ => rfl)
    (fun _ => EvI w (.func (.func 45) #[] #[]) R f g) (fun _ => EvX w R f g K) ?sI ?sX (fun _ => HST.out)
    (fun _ pre x a' _ => BgS w x.1 N (f pre.length) ∧ BgS w x.2 M (g pre.length) ∧ a' = { tmps := #[.slice A na ca, .slice B nb cb, .func (.func 45) #[] #[], undef, undef, .pointer (some ⟨w.heap.size, 0, none⟩), .pointer (some ⟨w.heap.size + 1, 0, none⟩), .slice x.1.1 x.1.2.1 x.1.2.2, .slice x.2.1 x.2.2.1 x.2.2.2, .slice A na ca, .slice B nb cb, .func (.func 73) #[] #[.pointer (some ⟨w.heap.size + 2, 0, none⟩), .pointer (some ⟨w.heap.size + 2 + 1, 0, none⟩)], .slice x.1.1 x.1.2.1 x.1.2.2, .slice x.2.1 x.2.2.1 x.2.2.2, undef, undef, undef, undef, undef], defers := [] }) ?sA ?assign ?body ?done ?stop
  case sI =>
    rintro c pre X Y ⟨q1, q2, q3, q4⟩ ho
    have h1 := HS1.out
    exact ⟨Boxed.only q1 ho (by omega), Boxed.only q2 ho (by omega), Only.keep q3 ho (fun k hk => by omega), q4⟩
  case sX =>
    rintro c e pre X Y ⟨q0, q1, q2, q3⟩ ho
    have h1 := HS1.out
    exact ⟨q0, Boxed.only q1 ho (by omega), Only.keep q2 ho (fun k hk => by omega), q3⟩
  case sA => exact fun _ _ _ _ _ _ _ h _ => h
  case assign =>
    rintro l c pre x W K2 hi hadm hsz hK2
    dsimp only [encP]
    gi_wp2
    exact hK2 _ _ (Only.refl _ W) hi ⟨hadm.1, hadm.2, rfl⟩
  case body =>
    rintro l c pre x a' W ⟨q1, q2, q3, q4⟩ ⟨x1, x2, rfl⟩ hsz hlen
    have h1 := HS1.out
    have c1 := q1.cell
    have HQ1 := Lib.hid q1
    have HQ2 := Lib.hid q2
    have HQ3 := Lib.hid q3
    have HQ4 := Lib.hid q4
    have f2 := q2.frozen
    by_cases hR : R (f pre.length) (g pre.length)
    · have HC := Lib.hid (HF.out W x.1 x.2 pre.length true (x1.keep q3) (x2.keep q3) (by simp [hR]))
      clear q1 q2 q3 q4 HSEQ HST f2
      gi_wp2_with (refine ⟨trivial, ?_⟩; refine (callsIn_wide.2 HC.out).mono ?_; rintro e w2 ⟨rfl, hk2⟩)
      refine ⟨Only.of_keep _ hk2, (hk2.block _ HQ1.out.lt).trans HQ1.out, (hk2.block _ HQ2.out.lt).trans HQ2.out, HQ3.out.trans hk2, ?_⟩
      intro i hi
      rw [List.length_append] at hi
      by_cases he : i = pre.length
      · rw [he]; exact hR
      · exact HQ4.out i (by simp at hi; omega)
    · have HC := Lib.hid (HF.out W x.1 x.2 pre.length false (x1.keep q3) (x2.keep q3) (by simp [hR]))
      have HFZ := Lib.hid (show ∀ X, Keep W X → X.frozen? ⟨w.heap.size + 1, 0, none⟩ = false ∧ X.cell? ⟨w.heap.size + 1, 0, none⟩ = some (.bool false) from fun X hX => ⟨Boxed.frozen ((hX.block _ q2.lt).trans q2), Boxed.cell ((hX.block _ q2.lt).trans q2)⟩)
      clear q1 q2 q3 q4 HSEQ HST f2
      gi_wp2_with (refine ⟨trivial, ?_⟩; refine (callsIn_wide.2 HC.out).mono ?_; rintro e w2 ⟨rfl, hk2⟩; obtain ⟨f3, c3⟩ := HFZ.out w2 hk2)
      have hO : Only (fun k => k = w.heap.size + 1) W (w2.setCell ⟨w.heap.size + 1, 0, none⟩ (.bool false)) := (Only.of_keep _ hk2).setCell _ _ rfl
      refine ⟨hO.mono (fun k _ h => ⟨by omega, by omega⟩), rfl, ?_, Only.keep HQ3.out hO (fun k h => by omega), pre.length, hlen, hR⟩
      exact Boxed.set (.bool false) ((hk2.block _ HQ2.out.lt).trans HQ2.out)
  case done =>
    rintro D c ys W hD hlen ⟨q1, q2, q3, q4⟩ hdef
    have hfl := hlen
    have h1 := HS1.out
    have f2 := q2.frozen
    have c2 := q2.cell
    have HQ2 := Lib.hid q2
    have HQ3 := Lib.hid q3
    have hvt : v = true := HV.out.2 (fun i hi => q4 i (by omega))
    subst hvt
    clear q1 q2 q3 q4 HSEQ HST
    gi_wp2
    have hO : Only (fun k => k = w.heap.size + 1 ∨ k = D) W ((W.setCell ⟨w.heap.size + 1, 0, none⟩ (.bool true)).putObj D (.deferred none)) := ((Only.refl _ W).setCell _ _ (.inl rfl)).putObj _ _ (.inr rfl)
    have hK' : (W.setCell ⟨w.heap.size + 1, 0, none⟩ (.bool true)).heap[D]? = some (.deferred (some [])) := (((Only.refl (fun k => k = w.heap.size + 1) W).setCell ⟨w.heap.size + 1, 0, none⟩ (.bool true) rfl).block D (Array.getElem?_eq_some_iff.1 hdef).1 (by omega)).trans hdef
    have hb5 : Boxed ((W.setCell ⟨w.heap.size + 1, 0, none⟩ (.bool true)).putObj D (.deferred none)) (w.heap.size + 1) 4 (.bool true) := (World.putObj_heap_other (by omega)).trans (HQ2.out.set (.bool true))
    have hc5 := hb5.cell
    have hkf := Only.keep HQ3.out hO (fun k h => by omega)
    refine ⟨by simp, .inl ⟨_, _, rfl, run_takeDeferred hK', ?_⟩⟩
    exact ⟨.bool true, by simp [results, Tryd.f44, go_sem, hc5], rfl, hkf⟩
  case stop =>
    rintro D c e pre W hD hS ⟨rfl, q1, q2, i, hi, q3⟩ hdef
    have h1 := HS1.out
    have hvf : v = false := by
      cases hv : v
      · rfl
      · exact absurd (HV.out.1 hv i hi) q3
    subst hvf
    have c2 := q1.cell
    have HQ1 := Lib.hid q1
    have HQ2 := Lib.hid q2
    clear q1 q2 q3 HSEQ HST
    gi_wp2
    have hO : Only (fun k => k = D) W (W.putObj D (.deferred none)) := (Only.refl _ W).putObj _ _ rfl
    have hb5 : Boxed (W.putObj D (.deferred none)) (w.heap.size + 1) 4 (.bool false) := (World.putObj_heap_other (by omega)).trans HQ1.out
    have hc5 := hb5.cell
    have hkf := Only.keep HQ2.out hO (fun k h => by omega)
    refine ⟨by simp, .inl ⟨_, _, rfl, run_takeDeferred hdef, ?_⟩⟩
    exact ⟨.bool false, by simp [results, Tryd.f44, go_sem, hc5], rfl, hkf⟩
set_option maxRecDepth 100000 in
set_option maxHeartbeats 2000000 in
theorem every_same (R : (Int → Bool) → (Int → Bool) → Prop) {w : World} {A B : Option Addr} {na ca nb cb N M : Nat} {f g : Nat → Int → Bool} (v : Bool) (hA : Area w A na N f) (hB : Area w B nb M g) (hl : max na nb ≤ 1000000)
    (hF : ∀ (X : World) (x y : SV) (i : Nat) (b : Bool), BgS X x N (f i) → BgS X y M (g i) → (b = true ↔ R (f i) (g i)) → Calls Tryd.prog 46 #[.slice x.1 x.2.1 x.2.2, .slice y.1 y.2.1 y.2.2] X fun e w' => e = .returned (.bool b) ∧ Keep X w')
    (hv : v = true ↔ ∀ i, i < max na nb → R (f i) (g i)) :
    Calls Tryd.prog 44 #[.slice A na ca, .slice B nb cb, .func (.func 46) #[] #[]] w fun e w' => e = .returned (.bool v) ∧ Keep w w' := by
  obtain ⟨K, hK⟩ : ∃ K, K = max na nb := ⟨_, rfl⟩
  rw [← hK] at hv hl
  have HF := Lib.hid hF
  have HV := Lib.hid hv
  have HA := Lib.hid hA
  have HB := Lib.hid hB
  clear hF hv hA hB
  refine (callsIn_wide (n := 3)).1 ?_
  refine callsIn_of_wp_marks Tryd.func44 rfl trivial ?_ rfl
  simp only [Tryd.ntmps44, List.size_toArray, List.length_cons, List.length_nil, Nat.reduceAdd, Nat.reduceSub, Array.replicate_succ, Array.replicate_zero, List.push_toArray, List.append_toArray, List.nil_append, List.cons_append]
  gi_wp2_with fail
  have bF := (Boxed.new w 49 (.func (.func 46) #[] #[])).alloc (.cells #[.bool false] 4)
  have bO := Boxed.new (w.alloc (.cells #[.func (.func 46) #[] #[]] 49)) 4 (.bool false)
  simp only [World.size_alloc] at bO
  have hB0 : Keep w ((w.alloc (.cells #[.func (.func 46) #[] #[]] 49)).alloc (.cells #[.bool false] 4)) := ((Keep.refl w).alloc _).alloc _
  have hs0 : ((w.alloc (.cells #[.func (.func 46) #[] #[]] 49)).alloc (.cells #[.bool false] 4)).heap.size = w.heap.size + 2 := by simp
  generalize (w.alloc (.cells #[.func (.func 46) #[] #[]] 49)).alloc (.cells #[.bool false] 4) = W0 at *
  refine ⟨trivial, (pairs_in A na ca B nb cb W0).mono ?_⟩
  rintro e w1 ⟨rfl, hw1⟩
  have hk1 : Keep W0 w1 := by rw [hw1]; exact ((Keep.refl W0).alloc _).alloc _
  have hs1 : w1.heap.size = w.heap.size + 4 := by rw [hw1]; simp [hs0]
  have cp1 : w1.cell? ⟨w.heap.size + 2, 0, none⟩ = some (.slice A na ca) := by rw [hw1, ← hs0]; exact ((Boxed.new W0 22 (.slice A na ca)).alloc _).cell
  have cp2 : w1.cell? ⟨w.heap.size + 3, 0, none⟩ = some (.slice B nb cb) := by
    have := (Boxed.new (W0.alloc (.cells #[.slice A na ca] 22)) 22 (.slice B nb cb)).cell
    simp only [World.size_alloc, hs0] at this
    rw [hw1]; exact this
  have hkw := hB0.trans hk1
  have hseq := pairs_seq (3 - 1) (by omega) K hK HA.out HB.out hkw hl cp1 cp2
  have hstart : EvI w (.func (.func 46) #[] #[]) R f g [] w1 := ⟨(hk1.block _ (by omega)).trans bF, (hk1.block _ (by omega)).trans bO, hkw, fun i hi => by simp at hi⟩
  rw [hs0]
  have HSEQ := Lib.hid hseq
  have HST := Lib.hid hstart
  have HS1 := Lib.hid hs1
  clear cp1 cp2 hw1 bF bO hB0 hs0 hk1 hseq hstart hkw
  gi_wp2_with fail
  refine wpIn_rangeFunc_X rfl (by omega) (gf := 73) (lb := #[.pointer (some ⟨w.heap.size + 2, 0, none⟩), .pointer (some ⟨w.heap.size + 3, 0, none⟩)]) rfl trivial (enters_of Tryd.func73 (by kernel_rfl) rfl) HSEQ.out
    (fun c => ⟨⟨by omega, by omega, by omega⟩, by omega, by omega, by omega⟩) (Keep.refl w1) (fun _ => rfl)
    (fun _ => EvI w (.func (.func 46) #[] #[]) R f g) (fun _ => EvX w R f g K) ?sI ?sX (fun _ => HST.out)
    (fun _ pre x a' _ => BgS w x.1 N (f pre.length) ∧ BgS w x.2 M (g pre.length) ∧ a' = { tmps := #[.slice A na ca, .slice B nb cb, .func (.func 46) #[] #[], undef, undef, .pointer (some ⟨w.heap.size, 0, none⟩), .pointer (some ⟨w.heap.size + 1, 0, none⟩), .slice x.1.1 x.1.2.1 x.1.2.2, .slice x.2.1 x.2.2.1 x.2.2.2, .slice A na ca, .slice B nb cb, .func (.func 73) #[] #[.pointer (some ⟨w.heap.size + 2, 0, none⟩), .pointer (some ⟨w.heap.size + 2 + 1, 0, none⟩)], .slice x.1.1 x.1.2.1 x.1.2.2, .slice x.2.1 x.2.2.1 x.2.2.2, undef, undef, undef, undef, undef], defers := [] }) ?sA ?assign ?body ?done ?stop
  case sI =>
    rintro c pre X Y ⟨q1, q2, q3, q4⟩ ho
    have h1 := HS1.out
    exact ⟨Boxed.only q1 ho (by omega), Boxed.only q2 ho (by omega), Only.keep q3 ho (fun k hk => by omega), q4⟩
  case sX =>
    rintro c e pre X Y ⟨q0, q1, q2, q3⟩ ho
    have h1 := HS1.out
    exact ⟨q0, Boxed.only q1 ho (by omega), Only.keep q2 ho (fun k hk => by omega), q3⟩
  case sA => exact fun _ _ _ _ _ _ _ h _ => h
  case assign =>
    rintro l c pre x W K2 hi hadm hsz hK2
    dsimp only [encP]
    gi_wp2
    exact hK2 _ _ (Only.refl _ W) hi ⟨hadm.1, hadm.2, rfl⟩
  case body =>
    rintro l c pre x a' W ⟨q1, q2, q3, q4⟩ ⟨x1, x2, rfl⟩ hsz hlen
    have h1 := HS1.out
    have c1 := q1.cell
    have HQ1 := Lib.hid q1
    have HQ2 := Lib.hid q2
    have HQ3 := Lib.hid q3
    have HQ4 := Lib.hid q4
    have f2 := q2.frozen
    by_cases hR : R (f pre.length) (g pre.length)
    · have HC := Lib.hid (HF.out W x.1 x.2 pre.length true (x1.keep q3) (x2.keep q3) (by simp [hR]))
      clear q1 q2 q3 q4 HSEQ HST f2
      gi_wp2_with (refine ⟨trivial, ?_⟩; refine (callsIn_wide.2 HC.out).mono ?_; rintro e w2 ⟨rfl, hk2⟩)
      refine ⟨Only.of_keep _ hk2, (hk2.block _ HQ1.out.lt).trans HQ1.out, (hk2.block _ HQ2.out.lt).trans HQ2.out, HQ3.out.trans hk2, ?_⟩
      intro i hi
      rw [List.length_append] at hi
      by_cases he : i = pre.length
      · rw [he]; exact hR
      · exact HQ4.out i (by simp at hi; omega)
    · have HC := Lib.hid (HF.out W x.1 x.2 pre.length false (x1.keep q3) (x2.keep q3) (by simp [hR]))
      have HFZ := Lib.hid (show ∀ X, Keep W X → X.frozen? ⟨w.heap.size + 1, 0, none⟩ = false ∧ X.cell? ⟨w.heap.size + 1, 0, none⟩ = some (.bool false) from fun X hX => ⟨Boxed.frozen ((hX.block _ q2.lt).trans q2), Boxed.cell ((hX.block _ q2.lt).trans q2)⟩)
      clear q1 q2 q3 q4 HSEQ HST f2
      gi_wp2_with (refine ⟨trivial, ?_⟩; refine (callsIn_wide.2 HC.out).mono ?_; rintro e w2 ⟨rfl, hk2⟩; obtain ⟨f3, c3⟩ := HFZ.out w2 hk2)
      have hO : Only (fun k => k = w.heap.size + 1) W (w2.setCell ⟨w.heap.size + 1, 0, none⟩ (.bool false)) := (Only.of_keep _ hk2).setCell _ _ rfl
      refine ⟨hO.mono (fun k _ h => ⟨by omega, by omega⟩), rfl, ?_, Only.keep HQ3.out hO (fun k h => by omega), pre.length, hlen, hR⟩
      exact Boxed.set (.bool false) ((hk2.block _ HQ2.out.lt).trans HQ2.out)
  case done =>
    rintro D c ys W hD hlen ⟨q1, q2, q3, q4⟩ hdef
    have hfl := hlen
    have h1 := HS1.out
    have f2 := q2.frozen
    have c2 := q2.cell
    have HQ2 := Lib.hid q2
    have HQ3 := Lib.hid q3
    have hvt : v = true := HV.out.2 (fun i hi => q4 i (by omega))
    subst hvt
    clear q1 q2 q3 q4 HSEQ HST
    gi_wp2
    have hO : Only (fun k => k = w.heap.size + 1 ∨ k = D) W ((W.setCell ⟨w.heap.size + 1, 0, none⟩ (.bool true)).putObj D (.deferred none)) := ((Only.refl _ W).setCell _ _ (.inl rfl)).putObj _ _ (.inr rfl)
    have hK' : (W.setCell ⟨w.heap.size + 1, 0, none⟩ (.bool true)).heap[D]? = some (.deferred (some [])) := (((Only.refl (fun k => k = w.heap.size + 1) W).setCell ⟨w.heap.size + 1, 0, none⟩ (.bool true) rfl).block D (Array.getElem?_eq_some_iff.1 hdef).1 (by omega)).trans hdef
    have hb5 : Boxed ((W.setCell ⟨w.heap.size + 1, 0, none⟩ (.bool true)).putObj D (.deferred none)) (w.heap.size + 1) 4 (.bool true) := (World.putObj_heap_other (by omega)).trans (HQ2.out.set (.bool true))
    have hc5 := hb5.cell
    have hkf := Only.keep HQ3.out hO (fun k h => by omega)
    refine ⟨by simp, .inl ⟨_, _, rfl, run_takeDeferred hK', ?_⟩⟩
    exact ⟨.bool true, by simp [results, Tryd.f44, go_sem, hc5], rfl, hkf⟩
  case stop =>
    rintro D c e pre W hD hS ⟨rfl, q1, q2, i, hi, q3⟩ hdef
    have h1 := HS1.out
    have hvf : v = false := by
      cases hv : v
      · rfl
      · exact absurd (HV.out.1 hv i hi) q3
    subst hvf
    have c2 := q1.cell
    have HQ1 := Lib.hid q1
    have HQ2 := Lib.hid q2
    clear q1 q2 q3 HSEQ HST
    gi_wp2
    have hO : Only (fun k => k = D) W (W.putObj D (.deferred none)) := (Only.refl _ W).putObj _ _ rfl
    have hb5 : Boxed (W.putObj D (.deferred none)) (w.heap.size + 1) 4 (.bool false) := (World.putObj_heap_other (by omega)).trans HQ1.out
    have hc5 := hb5.cell
    have hkf := Only.keep HQ2.out hO (fun k h => by omega)
    refine ⟨by simp, .inl ⟨_, _, rfl, run_takeDeferred hdef, ?_⟩⟩
    exact ⟨.bool false, by simp [results, Tryd.f44, go_sem, hc5], rfl, hkf⟩
end Go.Proofs.YtmdhbbibghpijaaDoor
