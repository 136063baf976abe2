/- The document's own Has and Same of layer 6. -/
import Derived.Test.YtmdhbbibghpijaaDoorIvlArg
namespace Go.Proofs.YtmdhbbibghpijaaDoor
open Go.RowKit

theorem hasB_take {zs : List Sp} {j : Nat} {x : Sp} {k : Int} (h : zs[j]? = some x) : hasB (zs.take (j + 1)) k = (hasB (zs.take j) k || (decide (x.lo ≤ k) && decide (k ≤ x.hi))) := by
  rw [(take_snoc h).1]
  simp [hasB]
theorem hasB_sub {zs : List Sp} {j : Nat} {x : Sp} {k : Int} (h : zs[j]? = some x) (h1 : x.lo ≤ k) (h2 : k ≤ x.hi) : hasB zs k = true := hasB_iff.2 ⟨x, List.mem_of_getElem? h, h1, h2⟩

set_option maxRecDepth 100000 in
set_option maxHeartbeats 2000000 in
theorem rhas_any (A : Option Addr) (n c : Nat) (zs : List Sp) (k : Int) (w : World) (h : Arg w A n c zs) (hn : n ≤ 40000) :
    Calls Tryd.prog 43 #[.slice A n c, .int .i64 k] w fun e w' => e = .returned (.bool (hasB zs k)) ∧ w = w' := by
  have HL := Lib.hid h.len
  have HA := Lib.hid h
  have hni : (n : Int) ≤ 40000 := by omega
  clear h
  go_enter Tryd.func43, Tryd.ntmps43
  go_wp2_with fail
  go_loopw [5] (fun i wr => w = wr ∧ ∃ (j : Nat), j ≤ n ∧ i = .int .i64 j ∧ hasB (zs.take j) k = false) (fun i _ => n - (intOf i).toNat)
  case atStart => exact ⟨rfl, 0, Nat.zero_le _, rfl, rfl⟩
  case round =>
    obtain ⟨rfl, j, hj, rfl, hno⟩ := hrel
    have HNO := Lib.hid hno
    clear hno
    by_cases hlt : j < n
    · obtain ⟨x, hx⟩ : ∃ x, zs[j]? = some x := ⟨_, List.getElem?_eq_getElem (by rw [HL.out]; exact hlt)⟩
      obtain ⟨b, off, e, hb, c0, c1⟩ := SpS.cells HA.out.prs j x hx
      subst e
      obtain ⟨⟨o1, o2⟩, o3, o4⟩ := HA.out.ok x (List.mem_of_getElem? hx)
      have hji : (j : Int) < (n : Int) := by omega
      by_cases h1 : x.lo ≤ k
      · by_cases h2 : k ≤ x.hi
        · have HT := Lib.hid (hasB_sub hx h1 h2)
          clear hx
          go_wp2_with fail
          go_ret
          exact ⟨by rw [HT.out]; rfl, rfl⟩
        · have HT := Lib.hid (show hasB (zs.take (j + 1)) k = false by rw [hasB_take hx, HNO.out]; simp; omega)
          clear hx
          go_wp2_with fail
          go_roundw
          case rel => exact ⟨by first | rfl | trivial, j + 1, hlt, by go_num, HT.out⟩
          case measure => simp [intOf]; omega
      · have HT := Lib.hid (show hasB (zs.take (j + 1)) k = false by rw [hasB_take hx, HNO.out]; simp; omega)
        clear hx
        go_wp2_with fail
        go_roundw
        case rel => exact ⟨by first | rfl | trivial, j + 1, hlt, by go_num, HT.out⟩
        case measure => simp [intOf]; omega
    · obtain rfl : j = n := by omega
      have HT := Lib.hid (show hasB zs k = false by have := HNO.out; rwa [List.take_of_length_le (by rw [HL.out]; exact Nat.le_refl _)] at this)
      go_wp2_with fail
      go_ret
      exact ⟨by rw [HT.out]; rfl, rfl⟩

def eqSp (x y : Sp) : Bool := decide (x.lo = y.lo) && decide (x.hi = y.hi)
theorem eqSp_iff {x y : Sp} : eqSp x y = true ↔ x = y := by
  cases x; cases y
  simp [eqSp]
theorem equalIn_s4 (p q r s : Int) (w : World) : (Op.equalIn 10000 37 (.agg #[.int .u32 p, .int .u32 q]) (.agg #[.int .u32 r, .int .u32 s])).run Tryd.prog w = .ok (eqSp ⟨p, q⟩ ⟨r, s⟩) w := by
  have h := run_equalIn_struct (P := Tryd.prog) w 9999 37 #[.int .u32 p, .int .u32 q] #[.int .u32 r, .int .u32 s] (by kernel_rfl) (by kernel_rfl)
  rw [h]
  obtain ⟨f0, f1, e, o0, o1, t0, t1, n0, n1⟩ := spFields
  have e2 : (Tryd.prog.fieldsOf 37).toList = [f0, f1] := by simp [Program.fieldsOf, e]
  rw [e2]
  simp [Op.eqFields, o0, o1, t0, t1, bne_iff_ne.1 n0, bne_iff_ne.1 n1, go_sem, eqSp]
  by_cases h1 : p = r <;> by_cases h2 : q = s <;> simp [h1, h2]

set_option maxRecDepth 100000 in
set_option maxHeartbeats 4000000 in
/-- The same spans? -/
theorem rsame_any (A : Option Addr) (n c : Nat) (us : List Sp) (B : Option Addr) (n2 c2 : Nat) (vs : List Sp) (v : Bool) (w : World) (h : Arg w A n c us) (h2 : Arg w B n2 c2 vs) (hn : n ≤ 40000) (hn2 : n2 ≤ 40000) (hv : v = true ↔ us = vs) :
    Calls Tryd.prog 31 #[.slice A n c, .slice B n2 c2] w fun e w' => e = .returned (.bool v) ∧ Keep w w' := by
  have HL := Lib.hid (And.intro h.len h2.len)
  have HA := Lib.hid h
  have HB := Lib.hid h2
  have HV := Lib.hid hv
  have hni : (n : Int) ≤ 40000 := by omega
  clear h h2 hv
  by_cases hnn : n = n2
  · subst hnn
    go_enter Tryd.func31, Tryd.ntmps31
    go_wp2_with fail
    go_loopw [5] (fun i wr => Keep w wr ∧ ∃ (j : Nat), j ≤ n ∧ i = .int .i64 j ∧ us.take j = vs.take j) (fun i _ => n - (intOf i).toNat)
    case atStart => exact ⟨Keep.refl _, 0, Nat.zero_le _, rfl, rfl⟩
    case round =>
      obtain ⟨hk, j, hj, rfl, hno⟩ := hrel
      have HNO := Lib.hid hno
      clear hno
      by_cases hlt : j < n
      · obtain ⟨x, hx⟩ : ∃ x, us[j]? = some x := ⟨_, List.getElem?_eq_getElem (by rw [HL.out.1]; exact hlt)⟩
        obtain ⟨y, hy⟩ : ∃ y, vs[j]? = some y := ⟨_, List.getElem?_eq_getElem (by rw [HL.out.2]; exact hlt)⟩
        obtain ⟨b1, o1, e, hb1, x0, x1⟩ := SpS.cells (HA.out.keep hk).prs j x hx
        subst e
        obtain ⟨b2, o2, e, hb2, y0, y1⟩ := SpS.cells (HB.out.keep hk).prs j y hy
        subst e
        have HXY := Lib.hid (And.intro hx hy)
        have hji : (j : Int) < (n : Int) := by omega
        have hq := equalIn_s4 x.lo x.hi y.lo y.hi
        have heq : eqSp ⟨x.lo, x.hi⟩ ⟨y.lo, y.hi⟩ = eqSp x y := rfl
        rw [heq] at hq
        clear hx hy heq
        have HS := Lib.hid (show ∀ w', Keep wr w' → Keep wr w' ∧ (w'.cell? ⟨b1, o1 + j * 2, none⟩ = some (.int .u32 x.lo) ∧ w'.cell? ⟨b1, o1 + j * 2 + 1, none⟩ = some (.int .u32 x.hi) ∧ w'.cell? ⟨b2, o2 + j * 2, none⟩ = some (.int .u32 y.lo) ∧ w'.cell? ⟨b2, o2 + j * 2 + 1, none⟩ = some (.int .u32 y.hi)) from
          fun w' h => ⟨h, (h.cell (p := ⟨b1, o1 + j * 2, none⟩) hb1).trans x0, (h.cell (p := ⟨b1, o1 + j * 2 + 1, none⟩) hb1).trans x1, (h.cell (p := ⟨b2, o2 + j * 2, none⟩) hb2).trans y0, (h.cell (p := ⟨b2, o2 + j * 2 + 1, none⟩) hb2).trans y1⟩)
        have hKc := (Keep.refl wr).drew
        cases hxy : eqSp x y
        all_goals
          rw [hxy] at hq
          go_wp2_with fail
          refine seq_region (S := fun w' => Keep wr w' ∧ (w'.cell? ⟨b1, o1 + j * 2, none⟩ = some (.int .u32 x.lo) ∧ w'.cell? ⟨b1, o1 + j * 2 + 1, none⟩ = some (.int .u32 x.hi) ∧ w'.cell? ⟨b2, o2 + j * 2, none⟩ = some (.int .u32 y.lo) ∧ w'.cell? ⟨b2, o2 + j * 2 + 1, none⟩ = some (.int .u32 y.hi))) [⟨0, 1, 131072⟩, ⟨0, 32, 262144⟩, ⟨3, 393216, 524288⟩, ⟨4, 524288, 1048576⟩, ⟨0, 2, 2097152⟩, ⟨0, 32, 4194304⟩, ⟨48, 6291456, 8388608⟩, ⟨64, 8388608, 16777216⟩, ⟨136, 17825792, 33554432⟩] [(0, false), (1, false), (2, false), (3, false), (4, false), (5, false), (6, false), (7, false), (8, false)] rfl (by kernel_rfl) (by kernel_rfl) (fun _ _ d _ _ h => by cases d <;> exact h) (HS.out _ hKc) ?_
          simp only [rowsOf, rowAt, gslot, List.map_cons, List.map_nil, List.getElem?_toArray, List.getElem?_cons_zero, List.getElem?_cons_succ]
          repeat (first
            | (refine seq_take (v := ?_) (a' := ?_) (by rfl) ?_ ?_ ?_
               rotate_left 2
               · (intro w hSw; obtain ⟨-, hSw⟩ := hSw; go_split_ands; go_simp; with_reducible rfl)
               · (simp only [Act.put, List.setIfInBounds_toArray, List.set_cons_zero, List.set_cons_succ]; with_reducible rfl)))
          refine seq_nil ?_
        · have hvf : v = false := by
            cases v
            · rfl
            · have he := HV.out.1 rfl
              have h1 := HXY.out.1
              rw [he, HXY.out.2] at h1
              have := eqSp_iff.2 (Option.some.inj h1).symm
              rw [hxy] at this
              cases this
          subst hvf
          go_wp2_with fail
          go_ret
          exact ⟨rfl, hk.trans hKc⟩
        · have HT := Lib.hid (show us.take (j + 1) = vs.take (j + 1) by
            rw [(take_snoc HXY.out.1).1, (take_snoc HXY.out.2).1, HNO.out, eqSp_iff.1 hxy])
          go_wp2_with fail
          go_roundw
          case rel => exact ⟨hk.trans hKc, j + 1, hlt, by go_num, HT.out⟩
          case measure => simp [intOf]; omega
      · obtain rfl : j = n := by omega
        have hvt : v = true := HV.out.2 (by
          have := HNO.out
          rwa [List.take_of_length_le (by rw [HL.out.1]; exact Nat.le_refl _), List.take_of_length_le (by rw [HL.out.2]; exact Nat.le_refl _)] at this)
        subst hvt
        go_wp2_with fail
        go_ret
        exact ⟨rfl, hk⟩
  · have hvf : v = false := by
      cases v
      · rfl
      · have he := HV.out.1 rfl
        exact absurd (by rw [← HL.out.1, he, HL.out.2]) hnn
    subst hvf
    have hne : ((n : Int) != (n2 : Int)) = true := by rw [bne_iff_ne]; omega
    go_enter Tryd.func31, Tryd.ntmps31
    go_wp2
    go_ret
    exact ⟨rfl, Keep.refl _⟩
end Go.Proofs.YtmdhbbibghpijaaDoor
