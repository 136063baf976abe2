/- slices.Equal, IndexFunc, Clone of spans; Has. -/
import Derived.Test.YtopengbflnoneaaIvlFn
namespace Go.Proofs.Ytopengbflnoneaa.Iv
open Go.RowKit

theorem spFields : ∃ f0 f1 : Field, Try.prog.underlying 36 = some (.struct #[f0, f1]) ∧ f0.offset = 0 ∧ f1.offset = 1 ∧ f0.type = 32 ∧ f1.type = 32 ∧ (f0.name != "_") = true ∧ (f1.name != "_") = true :=
  ⟨_, _, Try.underlying36, by kernel_rfl, by kernel_rfl, by kernel_rfl, by kernel_rfl, by kernel_rfl, by kernel_rfl⟩
def eqS (a b : Sp) : Bool := a.lo == b.lo && a.hi == b.hi
theorem eqS_iff {a b : Sp} : eqS a b = true ↔ a = b := by
  cases a; cases b; simp [eqS]
theorem equalIn_sp (a b : Sp) (w : World) : (Op.equalIn 10000 36 (.agg #[.int .u32 a.lo, .int .u32 a.hi]) (.agg #[.int .u32 b.lo, .int .u32 b.hi])).run Try.prog w = .ok (eqS a b) w := by
  have h := run_equalIn_struct (P := Try.prog) w 9999 36 #[.int .u32 a.lo, .int .u32 a.hi] #[.int .u32 b.lo, .int .u32 b.hi] (by kernel_rfl) (by kernel_rfl)
  rw [h]
  obtain ⟨f0, f1, e, o0, o1, t0, t1, n0, n1⟩ := spFields
  have e2 : (Try.prog.fieldsOf 36).toList = [f0, f1] := by simp [Program.fieldsOf, e]
  rw [e2]
  simp [Op.eqFields, o0, o1, t0, t1, bne_iff_ne.1 n0, bne_iff_ne.1 n1, go_sem, eqS]
  by_cases h1 : a.lo = b.lo <;> by_cases h2 : a.hi = b.hi <;> simp [h1, h2]

/-- The first place at which p holds. -/
def idx (p : Sp → Bool) (zs : List Sp) : Int := match zs.findIdx? p with
  | some i => (i : Int)
  | none => -1

theorem idx_at {p : Sp → Bool} {zs : List Sp} {j : Nat} {x : Sp} (hx : zs[j]? = some x) (hp : p x = true) (hno : ∀ k z, k < j → zs[k]? = some z → p z = false) : idx p zs = (j : Int) := by
  have hj := (List.getElem?_eq_some_iff.1 hx).1
  have : zs.findIdx? p = some j := by
    rw [List.findIdx?_eq_some_iff_getElem]
    refine ⟨hj, by rw [(List.getElem?_eq_some_iff.1 hx).2]; exact hp, fun k hk => ?_⟩
    have := hno k _ hk (List.getElem?_eq_getElem (by omega))
    simp [this]
  unfold idx
  rw [this]
theorem idx_none {p : Sp → Bool} {zs : List Sp} (hno : ∀ (k : Nat) (z : Sp), zs[k]? = some z → p z = false) : idx p zs = -1 := by
  have : zs.findIdx? p = none := by
    rw [List.findIdx?_eq_none_iff]
    intro z hz
    obtain ⟨k, hk⟩ := List.getElem?_of_mem hz
    exact hno k z hk
  unfold idx
  rw [this]

set_option maxRecDepth 100000 in
set_option maxHeartbeats 2000000 in
theorem index_empty (A : Option Addr) (n c : Nat) (zs : List Sp) (w : World) (h : SpS w w.heap.size A n zs) (hn : n ≤ 1000000) :
    Calls Try.prog 63 #[.slice A n c, .func (.func 41) #[] #[]] w fun e w' => e = .returned (.int .i64 (idx emp zs)) ∧ Keep w w' := by
  have HP := Lib.hid h
  have HN := Lib.hid h.len
  clear h
  go_enter Try.func63, Try.ntmps63
  go_wp2_with fail
  go_loopw [8] (fun i wr => ∃ (j : Nat), j ≤ n ∧ i = .int .i64 j ∧ Keep w wr ∧ Hid (∀ k z, k < j → zs[k]? = some z → emp z = false)) (fun i _ => n - (intOf i).toNat)
  case atStart => exact ⟨0, Nat.zero_le _, rfl, Keep.refl _, Lib.hid (fun k z hk => by omega)⟩
  case round =>
    obtain ⟨j, hj, rfl, hk, hno⟩ := hrel
    by_cases hlt : j < n
    · obtain ⟨x, hx⟩ : ∃ x, zs[j]? = some x := ⟨_, List.getElem?_eq_getElem (by rw [HN.out]; exact hlt)⟩
      obtain ⟨b, off, rfl, hb, c0, c1⟩ := SpS.cells (HP.out.keep hk (Nat.le_refl _)) j x hx
      have HX := Lib.hid hx
      have hjn : (j : Int) < (n : Int) := by omega
      clear hx
      cases he : emp x
      · go_wp2_with (go_at_call 41; refine (empty_any x _).mono ?_; rintro e w1 ⟨rfl, hk1⟩; rw [he])
        go_roundw
        case rel =>
          refine ⟨j + 1, hlt, by go_num, hk.trans hk1, Lib.hid (fun k z hkj hz => ?_)⟩
          rcases Nat.lt_or_ge k j with h1 | h1
          · exact hno.out k z h1 hz
          · obtain rfl : k = j := by omega
            rw [HX.out] at hz
            cases hz
            exact he
        case measure => simp [intOf]; omega
      · have hf : idx emp zs = (j : Int) := idx_at HX.out he hno.out
        have HF := Lib.hid hf
        clear hf
        go_wp2_with (go_at_call 41; refine (empty_any x _).mono ?_; rintro e w1 ⟨rfl, hk1⟩; rw [he])
        go_ret
        exact ⟨by rw [HF.out]; rfl, hk.trans hk1⟩
    · obtain rfl : j = n := by omega
      have hf : idx emp zs = -1 := idx_none fun k z hz => hno.out k z (by have := (List.getElem?_eq_some_iff.1 hz).1; rw [HN.out] at this; exact this) hz
      have HF := Lib.hid hf
      clear hf
      go_wp2_with fail
      go_ret
      exact ⟨by rw [HF.out]; rfl, hk⟩

theorem idx_any {p : Sp → Bool} {zs : List Sp} : decide (0 ≤ idx p zs) = zs.any p := by
  unfold idx
  cases h : zs.findIdx? p with
  | none =>
    rw [List.findIdx?_eq_none_iff] at h
    have : zs.any p = false := by rw [List.any_eq_false]; intro z hz; simp [h z hz]
    rw [this]
    rfl
  | some i =>
    rw [List.findIdx?_eq_some_iff_getElem] at h
    obtain ⟨hi, hp, _⟩ := h
    have : zs.any p = true := List.any_eq_true.2 ⟨_, List.getElem_mem hi, hp⟩
    rw [this]
    simp

end Go.Proofs.Ytopengbflnoneaa.Iv
