/- area.Empty; the sets of an area. -/
import Derived.Test.YtmdhbbibghpijaaDoorAreaCells
namespace Go.Proofs.YtmdhbbibghpijaaDoor
open Go.RowKit Go.Shelf
attribute [local go_sem] Oper.semAt_some

theorem set_exists {w : World} {A : Option Addr} {n c : Nat} {zs : List Sp} (h : Arg w A n c zs) (hn : n ≤ 40000) : ∃ r, IsSet r (mem zs) := by
  obtain ⟨e, w', fr, hg, -⟩ := make_any A n c zs w h.prs h.nil (by omega) h.ok []
  obtain ⟨-, A', c', r, -, -, -, -, -, hs⟩ := hg
  exact ⟨r, hs⟩
theorem area_sets {w : World} {A : Option Addr} {n N : Nat} {f : Nat → Int → Bool} (h : Area w A n N f) (hN : N ≤ 40000) : ∃ R : Nat → List Sp, ∀ i, i < n → IsSet (R i) (fun k => f i k = true) := by
  have : ∀ i, ∃ r : List Sp, i < n → IsSet r (fun k => f i k = true) := by
    intro i
    by_cases hi : i < n
    · obtain ⟨b, off, a, l, c, -, -, -, ⟨zs, hz, hq⟩, hl⟩ := h.row i hi
      obtain ⟨r, hr⟩ := set_exists hz (by omega)
      exact ⟨r, fun _ => hr.congr (fun k => by rw [← hasB_iff, hq k])⟩
    · exact ⟨[], fun h => absurd h hi⟩
  exact ⟨fun i => (this i).choose, fun i => (this i).choose_spec⟩
theorem mem_cellsL {R : Nat → List Sp} {n : Nat} {x : Int × Sp} : x ∈ cellsL R n ↔ ∃ i : Nat, i < n ∧ x.1 = i ∧ x.2 ∈ R i := by
  unfold cellsL
  simp only [List.mem_flatMap, List.mem_range, List.mem_map]
  constructor
  · rintro ⟨i, hi, s, hs, rfl⟩
    exact ⟨i, hi, rfl, hs⟩
  · rintro ⟨i, hi, h1, h2⟩
    exact ⟨i, hi, x.2, h2, by rw [← h1]⟩
theorem set_some {r : List Sp} {p : Int → Bool} (h : IsSet r (fun k => p k = true)) : (∃ s, s ∈ r) ↔ ∃ k, p k = true := by
  have h0 := isSet_nil h
  constructor
  · rintro ⟨s, hs⟩
    refine Classical.byContradiction fun hn => ?_
    have := h0.2 (fun k hk => hn ⟨k, hk⟩)
    rw [List.eq_nil_of_length_eq_zero this] at hs
    cases hs
  · rintro ⟨k, hk⟩
    cases r with
    | nil => exact absurd hk (h0.1 rfl k)
    | cons s r => exact ⟨s, by simp⟩
theorem cells_nil {R : Nat → List Sp} {n : Nat} {f : Nat → Int → Bool} (hR : ∀ i, i < n → IsSet (R i) (fun k => f i k = true)) (ho : ∀ i, n ≤ i → ∀ k, f i k = false) : cellsL R n = [] ↔ ∀ i k, f i k = false := by
  constructor
  · intro h i k
    by_cases hi : i < n
    · cases hf : f i k with
      | false => rfl
      | true =>
        obtain ⟨s, hs⟩ := (set_some (hR i hi)).2 ⟨k, hf⟩
        have : ((i : Int), s) ∈ cellsL R n := mem_cellsL.2 ⟨i, hi, rfl, hs⟩
        rw [h] at this
        cases this
    · exact ho i (by omega) k
  · intro h
    refine List.eq_nil_iff_forall_not_mem.2 fun x hx => ?_
    obtain ⟨i, hi, h1, h2⟩ := mem_cellsL.1 hx
    obtain ⟨k, hk⟩ := (set_some (hR i hi)).1 ⟨_, h2⟩
    rw [h i k] at hk
    cases hk

def EmI (w : World) (pre : List (Int × Sp)) (W : World) : Prop := pre = [] ∧ Boxed W w.heap.size 4 (.bool false) ∧ Keep w W
def EmX (w : World) (e : Code) (pre : List (Int × Sp)) (W : World) : Prop := e = .ret ∧ pre ≠ [] ∧ Boxed W w.heap.size 4 (.bool false) ∧ Keep w W
set_option maxRecDepth 100000 in
set_option maxHeartbeats 2000000 in
theorem empty_a {w : World} {A : Option Addr} {na ca N : Nat} {f : Nat → Int → Bool} (v : Bool) (hA : Area w A na N f) (hN : N ≤ 40000) (hl : na ≤ 1000000) (hv : v = true ↔ ∀ i k, f i k = false) :
    Calls Tryd.prog 26 #[.slice A na ca] w fun e w' => e = .returned (.bool v) ∧ Keep w w' := by
  obtain ⟨R, hR⟩ := area_sets hA hN
  have HV := Lib.hid (hv.trans (cells_nil hR hA.out).symm)
  have HA := Lib.hid hA
  have HR := Lib.hid hR
  clear hA hR hv
  refine (callsIn_wide (n := 3)).1 ?_
  refine callsIn_of_wp_marks Tryd.func26 rfl trivial ?_ rfl
  simp only [Tryd.ntmps26, List.size_toArray, List.length_cons, List.length_nil, Nat.reduceAdd, Nat.reduceSub, Array.replicate_succ, Array.replicate_zero, List.push_toArray, List.append_toArray, List.nil_append, List.cons_append]
  gi_wp2_with fail
  have bO := Boxed.new w 4 (.bool false)
  have hB0 : Keep w (w.alloc (.cells #[.bool false] 4)) := (Keep.refl w).alloc _
  have hs0 : (w.alloc (.cells #[.bool false] 4)).heap.size = w.heap.size + 1 := by simp
  generalize w.alloc (.cells #[.bool false] 4) = W0 at *
  refine ⟨trivial, (callsIn_wide.2 (cells_at A na ca W0)).mono ?_⟩
  rintro e w1 ⟨rfl, hw1⟩
  have hk1 : Keep W0 w1 := by rw [hw1]; exact (Keep.refl W0).alloc _
  have hs1 : w1.heap.size = w.heap.size + 2 := by rw [hw1]; simp [hs0]
  have cp1 : w1.cell? ⟨w.heap.size + 1, 0, none⟩ = some (.slice A na ca) := by rw [hw1, ← hs0]; exact (Boxed.new W0 22 (.slice A na ca)).cell
  have hkw := hB0.trans hk1
  have hseq := cells_seq (3 - 1) (by omega) HA.out HR.out hN hkw hl cp1
  have hstart : EmI w [] w1 := ⟨rfl, (hk1.block _ (Boxed.lt bO)).trans bO, hkw⟩
  rw [hs0]
  have HSEQ := Lib.hid hseq
  have HST := Lib.hid hstart
  have HS1 := Lib.hid hs1
  clear cp1 hw1 bO hB0 hs0 hk1 hseq hstart hkw
  gi_wp2_with fail
  refine wpIn_rangeFunc_T stays_sp rfl (by omega) (gf := 67) (lb := #[.pointer (some ⟨w.heap.size + 1, 0, none⟩)]) rfl trivial (enters_of Tryd.func67 (by kernel_rfl) rfl) HSEQ.out
    (fun c => ⟨⟨by omega, by omega⟩, by omega, by omega⟩) (Keep.refl w1) (fun _ => rfl)
    (fun _ => EmI w) (fun _ => EmX w) ?sI ?sX (fun _ => HST.out)
    (fun _ _ x a' _ => a' = { tmps := #[.slice A na ca, undef, .pointer (some ⟨w.heap.size, 0, none⟩), .slice A na ca, .func (.func 67) #[] #[.pointer (some ⟨w.heap.size + 1, 0, none⟩)], .int .i64 x.1, .agg #[.int .u32 x.2.lo, .int .u32 x.2.hi]], defers := [] }) (fun _ _ _ _ _ _ _ h _ => h) ?assign ?body ?done ?stop
  case sI =>
    rintro c pre X Y ⟨q0, q1, q2⟩ ho
    have h1 := HS1.out
    exact ⟨q0, Boxed.only q1 ho (by omega), Only.keep q2 ho (fun k hk => by omega)⟩
  case sX =>
    rintro c e pre X Y ⟨q0, q1, q2, q3⟩ ho
    have h1 := HS1.out
    exact ⟨q0, q1, Boxed.only q2 ho (by omega), Only.keep q3 ho (fun k hk => by omega)⟩
  case assign =>
    rintro l c pre x W K2 hi _ hsz hK2
    dsimp only [encC]
    gi_wp2
    exact hK2 _ _ (Only.refl _ W) (stays_sp.refl W) hi (by simp)
  case body =>
    rintro l c pre x a' W ⟨rfl, q2, q3⟩ rfl hsz hlen
    have h1 := HS1.out
    have c1 := q2.cell
    have f2 := q2.frozen
    have HQ2 := Lib.hid q2
    have HQ3 := Lib.hid q3
    clear q2 q3 HSEQ HST
    gi_wp2
    have hO : Only (fun k => k = w.heap.size) W (W.setCell ⟨w.heap.size, 0, none⟩ (.bool false)) := (Only.refl _ W).setCell _ _ rfl
    exact ⟨hO.mono (fun k _ h => ⟨by omega, by omega⟩), rfl, by simp, Boxed.set (.bool false) HQ2.out, Only.keep HQ3.out hO (fun k h => by omega)⟩
  case done =>
    rintro D c ys W hD hlen ⟨q0, q1, q2⟩ hdef
    have h1 := HS1.out
    have f2 := q1.frozen
    have c2 := q1.cell
    have HQ1 := Lib.hid q1
    have HQ2 := Lib.hid q2
    have hvt : v = true := HV.out.2 (by rw [← hlen, q0])
    subst hvt
    clear q1 q2 HSEQ HST
    gi_wp2
    have hO : Only (fun k => k = w.heap.size ∨ k = D) W ((W.setCell ⟨w.heap.size, 0, none⟩ (.bool true)).putObj D (.deferred none)) := ((Only.refl _ W).setCell _ _ (.inl rfl)).putObj _ _ (.inr rfl)
    have hK' : (W.setCell ⟨w.heap.size, 0, none⟩ (.bool true)).heap[D]? = some (.deferred (some [])) := (((Only.refl (fun k => k = w.heap.size) W).setCell ⟨w.heap.size, 0, none⟩ (.bool true) rfl).block D (Array.getElem?_eq_some_iff.1 hdef).1 (by omega)).trans hdef
    have hb5 : Boxed ((W.setCell ⟨w.heap.size, 0, none⟩ (.bool true)).putObj D (.deferred none)) w.heap.size 4 (.bool true) := (World.putObj_heap_other (by omega)).trans (HQ1.out.set (.bool true))
    have hc5 := hb5.cell
    have hkf := Only.keep HQ2.out hO (fun k h => by omega)
    refine ⟨by simp, .inl ⟨_, _, rfl, run_takeDeferred hK', ?_⟩⟩
    exact ⟨.bool true, by simp [results, Tryd.f26, go_sem, hc5], rfl, hkf⟩
  case stop =>
    rintro D c e pre W hD hS ⟨rfl, q0, q1, q2⟩ hdef
    have h1 := HS1.out
    have hvf : v = false := by
      cases hv : v
      · rfl
      · have := HV.out.1 hv
        rw [this] at hS
        exact absurd (List.prefix_nil.1 hS) q0
    subst hvf
    have HQ1 := Lib.hid q1
    have HQ2 := Lib.hid q2
    clear q1 q2 HSEQ HST
    gi_wp2
    have hO : Only (fun k => k = D) W (W.putObj D (.deferred none)) := (Only.refl _ W).putObj _ _ rfl
    have hb5 : Boxed (W.putObj D (.deferred none)) w.heap.size 4 (.bool false) := (World.putObj_heap_other (by omega)).trans HQ1.out
    have hc5 := hb5.cell
    have hkf := Only.keep HQ2.out hO (fun k h => by omega)
    refine ⟨by simp, .inl ⟨_, _, rfl, run_takeDeferred hdef, ?_⟩⟩
    exact ⟨.bool false, by simp [results, Tryd.f26, go_sem, hc5], rfl, hkf⟩
end Go.Proofs.YtmdhbbibghpijaaDoor
