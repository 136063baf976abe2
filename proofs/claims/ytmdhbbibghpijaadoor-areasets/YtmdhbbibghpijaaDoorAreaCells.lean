/- area.cells: each span of each label's set. -/
import Derived.Test.YtmdhbbibghpijaaDoorAreaOps
import Derived.Test.YtmdhbbibghpijaaDoorRngT
namespace Go.Proofs.YtmdhbbibghpijaaDoor
open Go.RowKit Go.Shelf
attribute [local go_sem] Oper.semAt_some

/-- Where spans lie nothing is turned. -/
def SpStay (a b : World) : Prop := ∀ (k : Nat) (cur : Array Value) (z : Nat × Nat), a.heap[k]? = some (Obj.cells cur 37 z) → b.heap[k]? = some (Obj.cells cur 37 z)
theorem spStay_of_only {S : Nat → Prop} {a b : World} (h : Only S a b) (hS : ∀ (k : Nat) (cur : Array Value) (z : Nat × Nat), S k → a.heap[k]? ≠ some (Obj.cells cur 37 z)) : SpStay a b := fun k cur z e =>
  (h.block k (Array.getElem?_eq_some_iff.1 e).1 (fun hk => hS k cur z hk e)).trans e
theorem spStay_of_keep {a b : World} (h : Keep a b) : SpStay a b := spStay_of_only (S := fun _ => False) (Only.of_keep _ h) (fun _ _ _ h => h.elim)
theorem SpStay.trans {a b c : World} (h : SpStay a b) (h' : SpStay b c) : SpStay a c := fun k cur z e => h' k cur z (h k cur z e)
theorem stays_sp : Stays SpStay := ⟨fun _ _ _ _ e => e, fun _ _ _ h h' => h.trans h', fun w l r o hl => spStay_of_only (S := fun k => k = l) ((Only.refl _ w).putObj l o rfl) (fun k cur z e h => by rw [e, hl] at h; cases h)⟩
theorem Own.stay {a b : World} {base : Nat} {A : Option Addr} {n c : Nat} {r : List Sp} (h : Own a base A n c r) (hs : SpStay a b) : Own b base A n c r := by
  refine ⟨h.1, ?_⟩
  rcases h.2 with h2 | ⟨g, cap, cur, e, h3, h4, h5⟩
  · exact .inl h2
  · exact .inr ⟨g, cap, cur, e, h3, hs g cur _ h4, h5⟩

/-- Each span of each of the first n labels' sets. -/
def cellsL (R : Nat → List Sp) (n : Nat) : List (Int × Sp) := (List.range n).flatMap fun (i : Nat) => (R i).map fun s => ((i : Int), s)
theorem cellsL_succ (R : Nat → List Sp) (n : Nat) : cellsL R (n + 1) = cellsL R n ++ (R n).map fun s => ((n : Int), s) := by
  unfold cellsL
  rw [List.range_succ, List.flatMap_append]
  simp
theorem cellsL_prefix (R : Nat → List Sp) {q n : Nat} (h : q ≤ n) : cellsL R q <+: cellsL R n := by
  induction n with
  | zero => obtain rfl : q = 0 := by omega
            exact List.prefix_refl _
  | succ n ih =>
    by_cases hq : q = n + 1
    · rw [hq]; exact List.prefix_refl _
    · rw [cellsL_succ]
      exact (ih (by omega)).trans (List.prefix_append _ _)
theorem part_prefix (R : Nat → List Sp) {q n j : Nat} (h : q < n) : cellsL R q ++ ((R q).take j).map (fun s => ((q : Int), s)) <+: cellsL R n := by
  have h1 : cellsL R q ++ ((R q).take j).map (fun s => ((q : Int), s)) <+: cellsL R (q + 1) := by
    rw [cellsL_succ, List.map_take]
    exact (List.prefix_append_right_inj _).2 (List.take_prefix _ _)
  exact h1.trans (cellsL_prefix R (by omega))
theorem map_snoc {R : List Sp} {j : Nat} {s : Sp} {q : Int} (h : R[j]? = some s) : (R.take (j + 1)).map (fun s => (q, s)) = (R.take j).map (fun s => (q, s)) ++ [(q, s)] := by
  rw [List.take_add_one, h]
  simp
def encC (x : Int × Sp) : Array Value := #[.int .i64 x.1, .agg #[.int .u32 x.2.lo, .int .u32 x.2.hi]]
/-- What a round may turn: nothing that lay, nor the iterator's box. -/
def TC (n₀ p1 : Nat) (_B _c k : Nat) : Prop := n₀ ≤ k ∧ k ≠ p1

theorem cells_at (A : Option Addr) (n c : Nat) (w : World) :
    Calls Tryd.prog 47 #[.slice A n c] w fun e w' => e = .returned (.func (.func 67) #[] #[.pointer (some ⟨w.heap.size, 0, none⟩)]) ∧ w' = w.alloc (.cells #[.slice A n c] 22) := by
  go_enter Tryd.func47, Tryd.ntmps47
  go_wp2
  exact bodyPost_ret (v := .func (.func 67) #[] #[.pointer (some ⟨w.heap.size, 0, none⟩)]) (by simp [results, Tryd.f47, go_sem]) rfl ⟨rfl, rfl⟩

set_option maxRecDepth 100000 in
set_option maxHeartbeats 2000000 in
theorem cells1_in (n : Nat) (hn : 1 ≤ n) (l : Nat) (J Jx : Nat → List (Int × Sp) → World → Prop) (T : Nat → Prop) {W : World} {p1 : Nat} {A : Option Addr} {na ca N : Nat} {f : Nat → Int → Bool} {R : Nat → List Sp}
    (hJ : ∀ s X Y, J 0 s X → Only (fun _ => False) X Y → J 0 s Y)
    (hY : ∀ pre x W1, J 0 pre W1 → pre ++ [x] <+: cellsL R na → W.heap.size ≤ W1.heap.size → pre.length < (cellsL R na).length → YieldAt Fence.wide (n - 1) Tryd.prog l (encC x) W1 fun e W' =>
      (e = .returned (.bool true) ∧ J 0 (pre ++ [x]) W' ∧ Only T W1 W' ∧ SpStay W1 W') ∨ (e = .returned (.bool false) ∧ Jx 0 (pre ++ [x]) W'))
    (hA : ∀ X, Only T W X → SpStay W X → Area X A na N f) (hR : ∀ i, i < na → IsSet (R i) (fun k => f i k = true)) (hN : N ≤ 40000) (hl : na ≤ 1000000)
    (c1 : W.cell? ⟨p1, 0, none⟩ = some (.slice A na ca)) (h0 : J 0 [] W) :
    CallsIn Fence.wide n Tryd.prog 67 #[.func (.yield l) #[] #[], .pointer (some ⟨p1, 0, none⟩)] W fun e W' => (∃ v, e = .returned v) ∧
      ((∃ c ys, ys = cellsL R na ∧ J c ys W') ∨ (∃ c pre, pre <+: cellsL R na ∧ Jx c pre W')) := by
  have hp1 : p1 < W.heap.size := World.block_lt_of_cell? W _ c1
  have HA := Lib.hid hA
  have HR := Lib.hid hR
  have HY := Lib.hid hY
  have HJJ := Lib.hid hJ
  have hkl : (na : Int) ≤ 1000000 := by omega
  clear hA hR hY hJ
  refine callsIn_of_wp Tryd.func67 rfl trivial ?_ rfl
  simp only [Tryd.ntmps67, List.size_toArray, List.length_cons, List.length_nil, Nat.reduceAdd, Nat.reduceSub, Array.replicate_succ, Array.replicate_zero, List.push_toArray, List.append_toArray, List.nil_append, List.cons_append]
  gi_wp2_with fail
  clear c1
  gi_loopw [9] (fun i wr => ∃ (q : Nat), i = .int .i64 q ∧ q ≤ na ∧ Hid (J 0 (cellsL R q) wr) ∧ Hid (Only T W wr) ∧ Hid (SpStay W wr)) (fun i _ => na - (intOf i).toNat)
  case atStart => exact ⟨0, rfl, Nat.zero_le _, Lib.hid h0, Lib.hid (Only.refl _ _), Lib.hid (stays_sp.refl _)⟩
  case round =>
    obtain ⟨q, rfl, hqn, HJ, HO, HSS⟩ := hrel
    by_cases hlt : q < na
    · have hlt2 : (q : Int) < (na : Int) := by omega
      obtain ⟨b, off, a, m0, d, e, hb, hc0, hg, hle⟩ := (HA.out wr HO.out HSS.out).row q hlt
      subst e
      have c0 := hc0
      obtain ⟨zs, hz1, hz2⟩ := hg
      have hz3 := hz1
      have HM := Lib.hid (make_own a m0 d zs wr hz3.prs hz3.nil (by omega) hz3.ok)
      have HSET := Lib.hid (show ∀ r, IsSet r (mem zs) → r = R q from fun r hr => hr.unique (HR.out q hlt) (fun k => by rw [← hasB_iff, hz2 k]))
      obtain ⟨bs, hbs⟩ : ∃ bs, wr.heap.size = bs := ⟨_, rfl⟩
      clear h0 hc0 hz1 hz2 hz3 hb
      gi_wp2_with fail
      refine ⟨trivial, (callsIn_wide.2 HM.out).mono ?_⟩
      rintro e w1 ⟨hk1, A1, c1, r, rfl, ho1, hr1, hs1⟩
      obtain rfl := HSET.out r hs1
      obtain ⟨m, hm⟩ : ∃ m, (R q).length = m := ⟨_, rfl⟩
      rw [hm] at ho1 hr1
      rw [hm]
      rw [hbs] at ho1
      have HO1 := Lib.hid ho1
      have HJ1 := Lib.hid (HJJ.out _ _ _ HJ.out (Only.of_keep _ hk1))
      have HT1 := Lib.hid (HO.out.trans (Only.of_keep (fun _ => False) hk1) (fun _ _ h => h.elim))
      have HS1 := Lib.hid (HSS.out.trans (spStay_of_keep hk1))
      have HMM := Lib.hid hm
      have hml : (m : Int) ≤ 1000000 := by omega
      clear ho1 hk1 hs1 c0 HM HSET hm hr1 hbs hle HJ HO HSS
      gi_wp2_with fail
      gi_loopw [17] (fun i wi => ∃ (j : Nat), i = .int .i64 j ∧ j ≤ m ∧ Hid (J 0 (cellsL R q ++ ((R q).take j).map fun s => ((q : Int), s)) wi) ∧ Hid (Only T W wi) ∧ Hid (SpStay W wi) ∧ Hid (Own wi bs A1 m c1 (R q))) (fun i _ => m - (intOf i).toNat)
      case atStart => exact ⟨0, rfl, Nat.zero_le _, Lib.hid (by simpa using HJ1.out), HT1, HS1, HO1⟩
      case round =>
        obtain ⟨j, rfl, hjm, HJ2, HT2, HS2, HO2⟩ := hrel
        by_cases hlt3 : j < m
        · have hlt4 : (j : Int) < (m : Int) := by omega
          obtain ⟨s, hs⟩ : ∃ s, (R q)[j]? = some s := ⟨_, List.getElem?_eq_getElem (by rw [HMM.out]; exact hlt3)⟩
          obtain ⟨g1, g2, g3⟩ := own_gives (show Own wr bs A1 (R q).length c1 (R q) by rw [HMM.out]; exact HO2.out)
          obtain ⟨b2, o2, e2, hb2, d0, d1⟩ := g1.get j s hs
          subst e2
          have HPX := Lib.hid (map_snoc (q := (q : Int)) hs)
          have hnew := World.alloc_heap_new wr (.cells #[.int .u32 s.lo, .int .u32 s.hi] 37)
          have hdr : Only (fun _ => False) wr (wr.alloc (.cells #[.int .u32 s.lo, .int .u32 s.hi] 37)) := (Only.refl _ wr).alloc _
          have HJ3 := Lib.hid (HJJ.out _ _ _ HJ2.out hdr)
          have HT3 := Lib.hid (HT2.out.trans hdr (fun _ _ h => h.elim))
          have HS3 := Lib.hid (HS2.out.trans (spStay_of_keep (Only.keep (Keep.refl wr) hdr (fun _ h => h.elim))))
          have HO3 := Lib.hid (HO2.out.stay (spStay_of_keep (Only.keep (Keep.refl wr) hdr (fun _ h => h.elim))))
          obtain ⟨fn, tmps, assign, body, hyq, hRR⟩ := HY.out _ ((q : Int), s) _ HJ3.out (by have := part_prefix R (j := j + 1) hlt; rw [HPX.out, ← List.append_assoc] at this; exact this) HT3.out.size (by
            have h1 := (part_prefix R (j := j + 1) hlt).length_le
            rw [HPX.out] at h1
            simp only [List.length_append, List.length_cons, List.length_nil] at h1 ⊢
            omega)
          dsimp only [encC] at hyq
          have HRR := Lib.hid hRR
          have hx0 : (wr.alloc (.cells #[.int .u32 s.lo, .int .u32 s.hi] 37)).cell? ⟨wr.heap.size, 0, none⟩ = some (.int .u32 s.lo) := by
            generalize wr.alloc (.cells #[.int .u32 s.lo, .int .u32 s.hi] 37) = V at *
            simp [World.cell?, hnew]
          have hx1 : (wr.alloc (.cells #[.int .u32 s.lo, .int .u32 s.hi] 37)).cell? ⟨wr.heap.size, 1, none⟩ = some (.int .u32 s.hi) := by
            generalize wr.alloc (.cells #[.int .u32 s.lo, .int .u32 s.hi] 37) = V at *
            simp [World.cell?, hnew]
          clear hs g1 g2 g3 hb2 hnew hdr hRR
          gi_wp2_with fail
          refine HRR.out.mono ?_
          intro e W3 h3
          obtain ⟨bb, rfl, h4, h5⟩ := two_ways h3
          clear h3 hyq HRR d0 d1 hx0 hx1
          cases bb
          · have HX3 := Lib.hid (h5 rfl)
            have HPP := Lib.hid (part_prefix R (j := j + 1) hlt)
            clear h4 h5
            gi_wp2
            refine bodyPost_ret (results_none rfl _ _ _) rfl ?_
            exact ⟨⟨_, rfl⟩, .inr ⟨0, _, (by have := HPP.out; rw [HPX.out, ← List.append_assoc] at this; exact this), HX3.out⟩⟩
          · obtain ⟨h6, h7, h8⟩ := h4 rfl
            have HJ4 := Lib.hid (show J 0 (cellsL R q ++ ((R q).take (j + 1)).map fun s => ((q : Int), s)) W3 by rw [HPX.out, ← List.append_assoc]; exact h6)
            have HT4 := Lib.hid (HT3.out.trans h7 (fun _ _ h => h))
            have HS4 := Lib.hid (HS3.out.trans h8)
            have HO4 := Lib.hid (HO3.out.stay h8)
            clear h4 h5 h6 h7 h8
            gi_wp2
            go_roundw
            case rel => exact ⟨j + 1, by go_num, hlt3, HJ4, HT4, HS4, HO4⟩
            case measure => simp [intOf]; omega
        · obtain rfl : j = m := by omega
          have HJ4 := Lib.hid (show J 0 (cellsL R (q + 1)) wr by
            have := HJ2.out
            rw [List.take_of_length_le (by rw [HMM.out]; exact Nat.le_refl _)] at this
            rw [cellsL_succ]; exact this)
          clear hlt3 hjm HJ1 HT1 HO1 HS1
          gi_wp2
          go_roundw
          case rel => exact ⟨q + 1, by go_num, hlt, HJ4, HT2, HS2⟩
          case measure => simp [intOf]; omega
    · obtain rfl : q = na := by omega
      clear hlt h0
      gi_wp2
      refine bodyPost_end (results_none rfl _ _ _) rfl ?_
      exact ⟨⟨_, rfl⟩, .inl ⟨0, _, rfl, HJ.out⟩⟩

theorem cells_seq (n : Nat) (hn : 1 ≤ n) {w0 w : World} {p1 : Nat} {A : Option Addr} {na ca N : Nat} {f : Nat → Int → Bool} {R : Nat → List Sp}
    (hA : Area w0 A na N f) (hR : ∀ i, i < na → IsSet (R i) (fun k => f i k = true)) (hN : N ≤ 40000) (hk : Keep w0 w) (hl : na ≤ 1000000) (c1 : w.cell? ⟨p1, 0, none⟩ = some (.slice A na ca)) :
    SeqT SpStay Fence.wide n Tryd.prog 67 #[.pointer (some ⟨p1, 0, none⟩)] encC (fun pre x _ => pre ++ [x] <+: cellsL R na) (TC w0.heap.size p1) (fun xs => xs = cellsL R na) (fun pre => pre <+: cellsL R na) (cellsL R na).length w := by
  intro l J Jx W hW hJ _ hY h0
  have hkW := hk.trans hW
  exact cells1_in n hn l J Jx (TC w0.heap.size p1 W.heap.size 0) (fun s X Y h1 h3 => hJ 0 s X Y h1 (h3.mono (fun _ _ h => h.elim))) (fun pre x W1 h1 h2 h3 h4 => hY 0 pre x W1 h1 h2 h3 h4)
    (fun X hX _ => hA.keep (Only.keep hkW hX (fun k h => h.1))) hR hN hl ((hW.cell (p := ⟨p1, 0, none⟩) (World.block_lt_of_cell? w _ c1)).trans c1) (h0 0)
/-- The same, of an area that lies among what a round may turn: it says itself that it stays. -/
theorem cells_seq2 (n : Nat) (hn : 1 ≤ n) (T : Nat → Prop) {w : World} {p1 : Nat} {A : Option Addr} {na ca N : Nat} {f : Nat → Int → Bool} {R : Nat → List Sp}
    (hA : ∀ X, Only T w X → SpStay w X → Area X A na N f) (hR : ∀ i, i < na → IsSet (R i) (fun k => f i k = true)) (hN : N ≤ 40000) (hl : na ≤ 1000000) (c1 : w.cell? ⟨p1, 0, none⟩ = some (.slice A na ca)) :
    SeqT SpStay Fence.wide n Tryd.prog 67 #[.pointer (some ⟨p1, 0, none⟩)] encC (fun pre x _ => pre ++ [x] <+: cellsL R na) (fun _ _ k => T k) (fun xs => xs = cellsL R na) (fun pre => pre <+: cellsL R na) (cellsL R na).length w := by
  intro l J Jx W hW hJ _ hY h0
  exact cells1_in n hn l J Jx T (fun s X Y h1 h3 => hJ 0 s X Y h1 (h3.mono (fun _ _ h => h.elim))) (fun pre x W1 h1 h2 h3 h4 => hY 0 pre x W1 h1 h2 h3 h4)
    (fun X hX hS => hA X ((Only.of_keep (fun _ => False) hW).mono (fun _ _ h => h.elim) |>.trans hX (fun _ _ h => h)) ((spStay_of_keep hW).trans hS)) hR hN hl ((hW.cell (p := ⟨p1, 0, none⟩) (World.block_lt_of_cell? w _ c1)).trans c1) (h0 0)
end Go.Proofs.YtmdhbbibghpijaaDoor
