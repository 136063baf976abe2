/- slices.Equal, IndexFunc, Clone of spans; Has. -/
import Derived.Test.YtmdhbbibghpijaaDoorIvlFn
namespace Go.Proofs.YtmdhbbibghpijaaDoor
open Go.RowKit

theorem spFields : ∃ f0 f1 : Field, Tryd.prog.underlying 37 = some (.struct #[f0, f1]) ∧ f0.offset = 0 ∧ f1.offset = 1 ∧ f0.type = 23 ∧ f1.type = 23 ∧ (f0.name != "_") = true ∧ (f1.name != "_") = true :=
  ⟨_, _, Tryd.underlying37, by kernel_rfl, by kernel_rfl, by kernel_rfl, by kernel_rfl, by kernel_rfl, by kernel_rfl⟩
def eqS (a b : Sp) : Bool := a.lo == b.lo && a.hi == b.hi
theorem eqS_iff {a b : Sp} : eqS a b = true ↔ a = b := by
  cases a; cases b; simp [eqS]
theorem equalIn_sp (a b : Sp) (w : World) : (Op.equalIn 10000 37 (.agg #[.int .u32 a.lo, .int .u32 a.hi]) (.agg #[.int .u32 b.lo, .int .u32 b.hi])).run Tryd.prog w = .ok (eqS a b) w := by
  have h := run_equalIn_struct (P := Tryd.prog) w 9999 37 #[.int .u32 a.lo, .int .u32 a.hi] #[.int .u32 b.lo, .int .u32 b.hi] (by kernel_rfl) (by kernel_rfl)
  rw [h]
  obtain ⟨f0, f1, e, o0, o1, t0, t1, n0, n1⟩ := spFields
  have e2 : (Tryd.prog.fieldsOf 37).toList = [f0, f1] := by simp [Program.fieldsOf, e]
  rw [e2]
  simp [Op.eqFields, o0, o1, t0, t1, bne_iff_ne.1 n0, bne_iff_ne.1 n1, go_sem, eqS]
  by_cases h1 : a.lo = b.lo <;> by_cases h2 : a.hi = b.hi <;> simp [h1, h2]

set_option maxRecDepth 100000 in
set_option maxHeartbeats 2000000 in
theorem equal_is (A : Option Addr) (n c : Nat) (A2 : Option Addr) (n2 c2 : Nat) (xs ys : List Sp) (v : Bool) (w : World) (h : SpS w w.heap.size A n xs) (h2 : SpS w w.heap.size A2 n2 ys) (hn : n ≤ 1000000) (hn2 : n2 ≤ 1000000) (hv : v = true ↔ xs = ys) :
    Calls Tryd.prog 66 #[.slice A n c, .slice A2 n2 c2] w fun e w' => e = .returned (.bool v) ∧ Keep w w' := by
  have hl := h.len
  have hl2 := h2.len
  by_cases hne : n = n2
  · subst hne
    have HP := Lib.hid h
    have HP2 := Lib.hid h2
    have HN := Lib.hid hl
    have HN2 := Lib.hid hl2
    have HV := Lib.hid hv
    clear h h2 hl hl2 hv
    go_enter Tryd.func66, Tryd.ntmps66
    go_wp2_with fail
    go_loopw [13] (fun i wr => ∃ (j : Nat), j ≤ n ∧ i = .int .i64 j ∧ Keep w wr ∧ Hid (∀ k, k < j → xs[k]? = ys[k]?)) (fun i _ => n - (intOf i).toNat)
    case atStart => exact ⟨0, Nat.zero_le _, rfl, Keep.refl _, Lib.hid (fun k hk => by omega)⟩
    case round =>
      obtain ⟨j, hj, rfl, hk, hno⟩ := hrel
      by_cases hlt : j < n
      · obtain ⟨x, hx⟩ : ∃ x, xs[j]? = some x := ⟨_, List.getElem?_eq_getElem (by rw [HN.out]; exact hlt)⟩
        obtain ⟨y, hy⟩ : ∃ y, ys[j]? = some y := ⟨_, List.getElem?_eq_getElem (by rw [HN2.out]; exact hlt)⟩
        obtain ⟨b, off, rfl, hb, c0, c1⟩ := SpS.cells (HP.out.keep hk (Nat.le_refl _)) j x hx
        obtain ⟨b2, off2, rfl, hb2, d0, d1⟩ := SpS.cells (HP2.out.keep hk (Nat.le_refl _)) j y hy
        have HX := Lib.hid hx
        have HY := Lib.hid hy
        have hjn : (j : Int) < (n : Int) := by omega
        have q1 := equalIn_sp x y
        clear hx hy
        cases he : eqS x y
        · rw [he] at q1
          have hvf : v = false := by
            cases hv : v
            · rfl
            · have e := HV.out.1 hv
              have : x = y := by
                have h1 := HX.out
                rw [e, HY.out] at h1
                exact (Option.some.inj h1).symm
              rw [eqS_iff.2 this] at he
              cases he
          have HVF := Lib.hid hvf
          clear hvf
          go_wp2_with fail
          go_region
          go_wp2_with fail
          go_ret
          exact ⟨by rw [HVF.out]; rfl, hk.drew⟩
        · rw [he] at q1
          have hxy : xs[j]? = ys[j]? := by rw [HX.out, HY.out, eqS_iff.1 he]
          have HXY := Lib.hid hxy
          clear hxy
          go_wp2_with fail
          go_region
          go_wp2_with fail
          go_roundw
          case rel =>
            refine ⟨j + 1, hlt, by go_num, hk.drew, Lib.hid (fun k hkj => ?_)⟩
            rcases Nat.lt_or_ge k j with h1 | h1
            · exact hno.out k h1
            · obtain rfl : k = j := by omega
              exact HXY.out
          case measure => simp [intOf]; omega
      · obtain rfl : j = n := by omega
        have hvt : v = true := HV.out.2 (List.ext_getElem? fun k => by
          rcases Nat.lt_or_ge k j with h1 | h1
          · exact hno.out k h1
          · rw [List.getElem?_eq_none (by rw [HN.out]; exact h1), List.getElem?_eq_none (by rw [HN2.out]; exact h1)])
        have HVT := Lib.hid hvt
        clear hvt
        go_wp2_with fail
        go_ret
        exact ⟨by rw [HVT.out]; rfl, hk⟩
  · have hvf : v = false := by
      cases hh : v
      · rfl
      · have e := hv.1 hh
        rw [e] at hl
        omega
    have HVF := Lib.hid hvf
    have hb : ((n : Int) != (n2 : Int)) = true := by rw [bne_iff_ne]; omega
    clear hvf h h2 hl hl2 hv
    go_enter Tryd.func66, Tryd.ntmps66
    go_wp2_with fail
    go_ret
    exact ⟨by rw [HVF.out]; rfl, Keep.refl _⟩

/-- The first place at which p holds. -/
def idx (p : Sp → Bool) (zs : List Sp) : Int := match zs.findIdx? p with
  | some i => (i : Int)
  | none => -1

theorem idx_at {p : Sp → Bool} {zs : List Sp} {j : Nat} {x : Sp} (hx : zs[j]? = some x) (hp : p x = true) (hno : ∀ k z, k < j → zs[k]? = some z → p z = false) : idx p zs = (j : Int) := by
  have hj := (List.getElem?_eq_some_iff.1 hx).1
  have : zs.findIdx? p = some j := by
    rw [List.findIdx?_eq_some_iff_getElem]
    refine ⟨hj, by rw [(List.getElem?_eq_some_iff.1 hx).2]; exact hp, fun k hk => ?_⟩
    have := hno k _ hk (List.getElem?_eq_getElem (by omega))
    simp [this]
  unfold idx
  rw [this]
theorem idx_none {p : Sp → Bool} {zs : List Sp} (hno : ∀ (k : Nat) (z : Sp), zs[k]? = some z → p z = false) : idx p zs = -1 := by
  have : zs.findIdx? p = none := by
    rw [List.findIdx?_eq_none_iff]
    intro z hz
    obtain ⟨k, hk⟩ := List.getElem?_of_mem hz
    exact hno k z hk
  unfold idx
  rw [this]

set_option maxRecDepth 100000 in
set_option maxHeartbeats 2000000 in
theorem index_empty (A : Option Addr) (n c : Nat) (zs : List Sp) (w : World) (h : SpS w w.heap.size A n zs) (hn : n ≤ 1000000) :
    Calls Tryd.prog 68 #[.slice A n c, .func (.func 51) #[] #[]] w fun e w' => e = .returned (.int .i64 (idx emp zs)) ∧ Keep w w' := by
  have HP := Lib.hid h
  have HN := Lib.hid h.len
  clear h
  go_enter Tryd.func68, Tryd.ntmps68
  go_wp2_with fail
  go_loopw [8] (fun i wr => ∃ (j : Nat), j ≤ n ∧ i = .int .i64 j ∧ Keep w wr ∧ Hid (∀ k z, k < j → zs[k]? = some z → emp z = false)) (fun i _ => n - (intOf i).toNat)
  case atStart => exact ⟨0, Nat.zero_le _, rfl, Keep.refl _, Lib.hid (fun k z hk => by omega)⟩
  case round =>
    obtain ⟨j, hj, rfl, hk, hno⟩ := hrel
    by_cases hlt : j < n
    · obtain ⟨x, hx⟩ : ∃ x, zs[j]? = some x := ⟨_, List.getElem?_eq_getElem (by rw [HN.out]; exact hlt)⟩
      obtain ⟨b, off, rfl, hb, c0, c1⟩ := SpS.cells (HP.out.keep hk (Nat.le_refl _)) j x hx
      have HX := Lib.hid hx
      have hjn : (j : Int) < (n : Int) := by omega
      clear hx
      cases he : emp x
      · go_wp2_with (go_at_call 51; refine (empty_any x _).mono ?_; rintro e w1 ⟨rfl, hk1⟩; rw [he])
        go_roundw
        case rel =>
          refine ⟨j + 1, hlt, by go_num, hk.trans hk1, Lib.hid (fun k z hkj hz => ?_)⟩
          rcases Nat.lt_or_ge k j with h1 | h1
          · exact hno.out k z h1 hz
          · obtain rfl : k = j := by omega
            rw [HX.out] at hz
            cases hz
            exact he
        case measure => simp [intOf]; omega
      · have hf : idx emp zs = (j : Int) := idx_at HX.out he hno.out
        have HF := Lib.hid hf
        clear hf
        go_wp2_with (go_at_call 51; refine (empty_any x _).mono ?_; rintro e w1 ⟨rfl, hk1⟩; rw [he])
        go_ret
        exact ⟨by rw [HF.out]; rfl, hk.trans hk1⟩
    · obtain rfl : j = n := by omega
      have hf : idx emp zs = -1 := idx_none fun k z hz => hno.out k z (by have := (List.getElem?_eq_some_iff.1 hz).1; rw [HN.out] at this; exact this) hz
      have HF := Lib.hid hf
      clear hf
      go_wp2_with fail
      go_ret
      exact ⟨by rw [HF.out]; rfl, hk⟩

theorem has1_any (z : Sp) (k : Int) (bk : Nat) (w : World) (hc : w.cell? ⟨bk, 0, none⟩ = some (.int .u32 k)) (hb : bk < w.heap.size) :
    Calls Tryd.prog 49 #[.agg #[.int .u32 z.lo, .int .u32 z.hi], .pointer (some ⟨bk, 0, none⟩)] w fun e w' => e = .returned (.bool (decide (z.lo ≤ k) && decide (k ≤ z.hi))) ∧ Keep w w' := by
  have c1 := (((Keep.refl w).alloc (.cells #[.int .u32 z.lo, .int .u32 z.hi] 37)).cell (p := ⟨bk, 0, none⟩) hb).trans hc
  by_cases h : z.lo ≤ k
  · go_enter Tryd.func49, Tryd.ntmps49
    go_wp2
    go_ret
    refine ⟨?_, (Keep.refl w).alloc _⟩
    simp [h]
  · have hd : decide (z.lo ≤ k) = false := decide_eq_false h
    go_enter Tryd.func49, Tryd.ntmps49
    go_wp2
    go_ret
    refine ⟨?_, (Keep.refl w).alloc _⟩
    simp

set_option maxRecDepth 100000 in
set_option maxHeartbeats 2000000 in
theorem index_has (A : Option Addr) (n c : Nat) (zs : List Sp) (k : Int) (bk : Nat) (w : World) (h : SpS w w.heap.size A n zs) (hn : n ≤ 1000000) (hck : w.cell? ⟨bk, 0, none⟩ = some (.int .u32 k)) (hbk : bk < w.heap.size) :
    Calls Tryd.prog 68 #[.slice A n c, .func (.func 49) #[] #[.pointer (some ⟨bk, 0, none⟩)]] w fun e w' => e = .returned (.int .i64 (idx (fun z : Sp => decide (z.lo ≤ k) && decide (k ≤ z.hi)) zs)) ∧ Keep w w' := by
  have HP := Lib.hid h
  have HN := Lib.hid h.len
  clear h
  go_enter Tryd.func68, Tryd.ntmps68
  go_wp2_with fail
  go_loopw [8] (fun i wr => ∃ (j : Nat), j ≤ n ∧ i = .int .i64 j ∧ Keep w wr ∧ Hid (∀ q z, q < j → zs[q]? = some z → (decide (z.lo ≤ k) && decide (k ≤ z.hi)) = false)) (fun i _ => n - (intOf i).toNat)
  case atStart => exact ⟨0, Nat.zero_le _, rfl, Keep.refl _, Lib.hid (fun q z hk => by omega)⟩
  case round =>
    obtain ⟨j, hj, rfl, hk, hno⟩ := hrel
    by_cases hlt : j < n
    · obtain ⟨x, hx⟩ : ∃ x, zs[j]? = some x := ⟨_, List.getElem?_eq_getElem (by rw [HN.out]; exact hlt)⟩
      obtain ⟨b, off, rfl, hb, c0, c1⟩ := SpS.cells (HP.out.keep hk (Nat.le_refl _)) j x hx
      have HX := Lib.hid hx
      have hjn : (j : Int) < (n : Int) := by omega
      clear hx
      cases he : (decide (x.lo ≤ k) && decide (k ≤ x.hi))
      · go_wp2_with (go_at_call 49; refine (has1_any x k bk _ ((hk.cell (p := ⟨bk, 0, none⟩) hbk).trans hck) (Nat.lt_of_lt_of_le hbk hk.size)).mono ?_; rintro e w1 ⟨rfl, hk1⟩; rw [he])
        go_roundw
        case rel =>
          refine ⟨j + 1, hlt, by go_num, hk.trans hk1, Lib.hid (fun q z hkj hz => ?_)⟩
          rcases Nat.lt_or_ge q j with h1 | h1
          · exact hno.out q z h1 hz
          · obtain rfl : q = j := by omega
            rw [HX.out] at hz
            cases hz
            exact he
        case measure => simp [intOf]; omega
      · have hf : idx (fun z : Sp => decide (z.lo ≤ k) && decide (k ≤ z.hi)) zs = (j : Int) := idx_at HX.out he hno.out
        have HF := Lib.hid hf
        clear hf
        go_wp2_with (go_at_call 49; refine (has1_any x k bk _ ((hk.cell (p := ⟨bk, 0, none⟩) hbk).trans hck) (Nat.lt_of_lt_of_le hbk hk.size)).mono ?_; rintro e w1 ⟨rfl, hk1⟩; rw [he])
        go_ret
        exact ⟨by rw [HF.out]; rfl, hk.trans hk1⟩
    · obtain rfl : j = n := by omega
      have hf : idx (fun z : Sp => decide (z.lo ≤ k) && decide (k ≤ z.hi)) zs = -1 := idx_none fun q z hz => hno.out q z (by have := (List.getElem?_eq_some_iff.1 hz).1; rw [HN.out] at this; exact this) hz
      have HF := Lib.hid hf
      clear hf
      go_wp2_with fail
      go_ret
      exact ⟨by rw [HF.out]; rfl, hk⟩

theorem idx_any {p : Sp → Bool} {zs : List Sp} : decide (0 ≤ idx p zs) = zs.any p := by
  unfold idx
  cases h : zs.findIdx? p with
  | none =>
    rw [List.findIdx?_eq_none_iff] at h
    have : zs.any p = false := by rw [List.any_eq_false]; intro z hz; simp [h z hz]
    rw [this]
    rfl
  | some i =>
    rw [List.findIdx?_eq_some_iff_getElem] at h
    obtain ⟨hi, hp, _⟩ := h
    have : zs.any p = true := List.any_eq_true.2 ⟨_, List.getElem_mem hi, hp⟩
    rw [this]
    simp

theorem cont_has (A : Option Addr) (n c : Nat) (zs : List Sp) (k : Int) (bk : Nat) (w : World) (h : SpS w w.heap.size A n zs) (hn : n ≤ 1000000) (hck : w.cell? ⟨bk, 0, none⟩ = some (.int .u32 k)) (hbk : bk < w.heap.size) :
    Calls Tryd.prog 48 #[.slice A n c, .func (.func 49) #[] #[.pointer (some ⟨bk, 0, none⟩)]] w fun e w' => e = .returned (.bool (hasB zs k)) ∧ Keep w w' := by
  have hi := idx_any (p := fun z : Sp => decide (z.lo ≤ k) && decide (k ≤ z.hi)) (zs := zs)
  have HC := Lib.hid (index_has A n c zs k bk w h hn hck hbk)
  have HI := Lib.hid (show decide (0 ≤ idx (fun z : Sp => decide (z.lo ≤ k) && decide (k ≤ z.hi)) zs) = hasB zs k from hi)
  clear hi h
  go_enter Tryd.func48, Tryd.ntmps48
  go_wp2_with (go_at_call 68; refine HC.out.mono ?_; rintro e w1 ⟨rfl, hk1⟩)
  go_ret
  exact ⟨by rw [← HI.out]; rfl, hk1⟩
theorem has_any (A : Option Addr) (n c : Nat) (zs : List Sp) (k : Int) (w : World) (h : SpS w w.heap.size A n zs) (hn : n ≤ 1000000) :
    Calls Tryd.prog 28 #[.slice A n c, .int .u32 k] w fun e w' => e = .returned (.bool (hasB zs k)) ∧ Keep w w' := by
  have k0 := (Keep.refl w).alloc (.cells #[.int .u32 k] 23)
  have hc : (w.alloc (.cells #[.int .u32 k] 23)).cell? ⟨w.heap.size, 0, none⟩ = some (.int .u32 k) := (Boxed.new w 23 (.int .u32 k)).cell
  have HC := Lib.hid (cont_has A n c zs k w.heap.size _ (h.up k0) hn hc (by simp))
  clear h
  go_enter Tryd.func28, Tryd.ntmps28
  go_wp2_with (go_at_call 48; refine HC.out.mono ?_; rintro e w1 ⟨rfl, hk1⟩)
  go_ret
  exact ⟨rfl, k0.trans hk1⟩
end Go.Proofs.YtmdhbbibghpijaaDoor
