/- ivl.setOf, Size, Same, Not. -/
import Derived.Test.YtdjhdcomoilhjaaIvlMake
namespace Go.Proofs.Ytdjhdcomoilhjaa
open Go.RowKit

/-- Spans that are handed in: a slice, its list. -/
structure Arg (w : World) (A : Option Addr) (n c : Nat) (zs : List Sp) : Prop where
  prs : SpS w w.heap.size A n zs
  cap : n ≤ c
  nil : A = none → c = 0
  ok : ∀ s ∈ zs, s.ok
theorem Arg.keep {w w' : World} {A : Option Addr} {n c : Nat} {zs : List Sp} (h : Arg w A n c zs) (hk : Keep w w') : Arg w' A n c zs := ⟨h.prs.up hk, h.cap, h.nil, h.ok⟩
theorem Arg.len {w : World} {A : Option Addr} {n c : Nat} {zs : List Sp} (h : Arg w A n c zs) : zs.length = n := h.prs.len
theorem gives_arg {w w' : World} {P : Int → Prop} {N : Nat} {e : Ending} (h : Gives w P N e w') : Keep w w' ∧ ∃ A c r, e = .returned (.slice A r.length c) ∧ Arg w' A r.length c r ∧ r.length ≤ N ∧ IsSet r P := by
  obtain ⟨hk, A, c, r, h1, h2, h3, h4, h5, h6⟩ := h
  exact ⟨hk, A, c, r, h1, ⟨h2, h3, h4.1, h6.ok⟩, h5, h6⟩

/-- The same, of what may be the slice that came in. -/
def GivesA (w : World) (P : Int → Prop) (N : Nat) (e : Ending) (w' : World) : Prop :=
  Keep w w' ∧ ∃ A c r, e = .returned (.slice A r.length c) ∧ Arg w' A r.length c r ∧ r.length ≤ N ∧ IsSet r P
theorem setof_any (A : Option Addr) (n c : Nat) (zs : List Sp) (w : World) (h : Arg w A n c zs) (hn : n ≤ 100000) :
    Calls Try.prog 29 #[.slice A n c] w (GivesA w (mem zs) n) := by
  have hl := h.len
  have HA := Lib.hid h
  by_cases hr : Rt zs
  · have HC := Lib.hid (right_any A n c zs true w h.prs h.ok (by omega) (by simp [hr]))
    clear h
    go_enter Try.func29, Try.ntmps29
    go_wp2_with (go_at_call 12; refine HC.out.mono ?_; rintro e w1 ⟨rfl, hk1⟩)
    go_ret
    subst hl
    exact ⟨hk1, A, c, zs, rfl, HA.out.keep hk1, Nat.le_refl _, hr, fun _ => Iff.rfl, HA.out.ok⟩
  · have HC := Lib.hid (right_any A n c zs false w h.prs h.ok (by omega) (by simp [hr]))
    clear h
    go_enter Try.func29, Try.ntmps29
    go_wp2_with (first
      | (go_at_call 12; refine HC.out.mono ?_; rintro e w1 ⟨rfl, hk1⟩)
      | (go_at_call 7; refine (make_any A n c zs _ (HA.out.keep hk1).prs HA.out.nil hn HA.out.ok).mono ?_; rintro e w2 ⟨hk2, A2, c2, r, rfl, h1, h2, h3, h4, h5⟩))
    go_ret
    exact ⟨hk1.trans hk2, A2, c2, r, rfl, ⟨h1, h2, h3.1, h5.ok⟩, h4, h5⟩

theorem same_any (A : Option Addr) (n c : Nat) (xs : List Sp) (A2 : Option Addr) (n2 c2 : Nat) (ys : List Sp) (v : Bool) (w : World) (h : Arg w A n c xs) (h2 : Arg w A2 n2 c2 ys) (hn : n ≤ 100000) (hn2 : n2 ≤ 100000) (hv : v = true ↔ ∀ k, mem xs k ↔ mem ys k) :
    Calls Try.prog 18 #[.slice A n c, .slice A2 n2 c2] w fun e w' => e = .returned (.bool v) ∧ Keep w w' := by
  have HA := Lib.hid h
  have HB := Lib.hid h2
  have HV := Lib.hid hv
  clear h h2 hv
  go_enter Try.func18, Try.ntmps18
  go_wp2_with fail
  go_at_call 29
  refine (setof_any A n c xs w HA.out hn).mono ?_
  intro e w1 hg
  obtain ⟨hk1, A1, c1, r, rfl, ha1, hr1, hs1⟩ := hg
  go_wp2_with fail
  go_at_call 29
  refine (setof_any A2 n2 c2 ys w1 (HB.out.keep hk1) hn2).mono ?_
  intro e w2 hg
  obtain ⟨hk2, A3, c3, r3, rfl, ha3, hr3, hs3⟩ := hg
  have hve : v = true ↔ r = r3 := HV.out.trans ⟨fun hm => hs1.unique hs3 hm, fun e k => by rw [← hs1.mem k, e, hs3.mem k]⟩
  have HVE := Lib.hid hve
  have HA1 := Lib.hid (ha1.keep hk2)
  have HA3 := Lib.hid ha3
  have hl1 : r.length ≤ 1000000 := by omega
  have hl3 : r3.length ≤ 1000000 := by omega
  clear hve ha1 ha3 hs1 hs3
  go_wp2_with fail
  go_at_call 33
  refine (equal_is A1 r.length c1 A3 r3.length c3 r r3 v w2 HA1.out.prs HA3.out.prs hl1 hl3 HVE.out).mono ?_
  rintro e w3 ⟨rfl, hk3⟩
  go_wp2
  go_ret
  exact ⟨rfl, (hk1.trans hk2).trans hk3⟩

theorem szL_take {r : List Sp} {j : Nat} {x : Sp} (h : r[j]? = some x) : szL (r.take (j + 1)) = szL (r.take j) + (x.hi - x.lo + 1) := by
  rw [(take_snoc h).1, szL_append]
  simp [szL]
theorem szL_le {r : List Sp} (h : Rt r) (hok : ∀ s ∈ r, s.ok) : szL r ≤ 4294967296 := by
  rw [szL_cnt h hok]
  have := cnt_le (memB r) 4294967296
  omega
theorem Rt.take {r : List Sp} (h : Rt r) (j : Nat) : Rt (r.take j) := ⟨fun s hs => h.1 s (List.mem_of_mem_take hs), h.2.sublist (List.take_sublist j r)⟩

set_option maxRecDepth 100000 in
set_option maxHeartbeats 2000000 in
theorem size_any (A : Option Addr) (n c : Nat) (zs : List Sp) (w : World) (h : Arg w A n c zs) (hn : n ≤ 100000) :
    Calls Try.prog 16 #[.slice A n c] w fun e w' => Keep w w' ∧ ∃ r, IsSet r (mem zs) ∧ e = .returned (.int .u64 (szL r)) := by
  have HA := Lib.hid h
  clear h
  go_enter Try.func16, Try.ntmps16
  go_wp2_with fail
  go_at_call 29
  refine (setof_any A n c zs w HA.out hn).mono ?_
  intro e w1 hg
  obtain ⟨hk1, A1, c1, r, rfl, ha1, hr1, hs1⟩ := hg
  have HP := Lib.hid ha1.prs
  have HS := Lib.hid hs1
  obtain ⟨m, hm⟩ : ∃ m, r.length = m := ⟨_, rfl⟩
  rw [hm] at HP hr1 ⊢
  have HM := Lib.hid hm
  have hm6 : (m : Int) ≤ 100000 := by omega
  clear ha1 hs1 hm
  go_wp2_with fail
  go_loopw [3, 9] (fun v i wr => ∃ (j : Nat), j ≤ m ∧ i = .int .i64 j ∧ v = .int .u64 (szL (r.take j)) ∧ Keep w1 wr) (fun v i _ => m - (intOf i).toNat)
  case atStart => exact ⟨0, Nat.zero_le _, rfl, rfl, Keep.refl _⟩
  case round =>
    obtain ⟨j, hj, rfl, rfl, hk⟩ := hrel
    by_cases hlt : j < m
    · obtain ⟨x, hx⟩ : ∃ x, r[j]? = some x := ⟨_, List.getElem?_eq_getElem (by rw [HM.out]; exact hlt)⟩
      have hxok := HS.out.ok x (List.mem_of_getElem? hx)
      have hxe := HS.out.rt.1 x (List.mem_of_getElem? hx)
      obtain ⟨b, off, e, hb, c0, c1⟩ := SpS.cells (HP.out.keep hk (Nat.le_refl _)) j x hx
      subst e
      obtain ⟨⟨o1, o2⟩, o3, o4⟩ := hxok
      have hst := szL_take hx
      have t0 := szL_nonneg (HS.out.rt.take j)
      have t1 := szL_le (HS.out.rt.take (j + 1)) (fun s hs => HS.out.ok s (List.mem_of_mem_take hs))
      have hw1 : IntKind.u32.wrap (x.hi - x.lo) = x.hi - x.lo := by rw [IntKind.wrap_u32]; omega
      have hw2 : IntKind.u64.wrap (x.hi - x.lo + 1) = x.hi - x.lo + 1 := by rw [IntKind.wrap_u64]; omega
      have hw3 : IntKind.u64.wrap (szL (r.take j) + (x.hi - x.lo + 1)) = szL (r.take (j + 1)) := by rw [IntKind.wrap_u64, hst]; omega
      have hw4 : IntKind.u64.wrap (x.hi - x.lo) = x.hi - x.lo := by rw [IntKind.wrap_u64]; omega
      have hjm : (j : Int) < (m : Int) := by omega
      clear hx hst t0 t1
      go_wp2_with fail
      go_roundw
      case rel => exact ⟨j + 1, hlt, by go_num, by first | rfl | rw [hw3], hk.alloc _⟩
      case measure => simp [intOf]; omega
    · obtain rfl : j = m := by omega
      have hf : r.take j = r := List.take_of_length_le (by rw [HM.out]; exact Nat.le_refl _)
      have HF := Lib.hid hf
      clear hf
      go_wp2_with fail
      go_ret
      exact ⟨hk1.trans hk, r, HS.out, by rw [HF.out]; rfl⟩
theorem size_is (A : Option Addr) (n c : Nat) (zs r : List Sp) (w : World) (h : Arg w A n c zs) (hn : n ≤ 100000) (hr : IsSet r (mem zs)) :
    Calls Try.prog 16 #[.slice A n c] w fun e w' => e = .returned (.int .u64 (szL r)) ∧ Keep w w' := by
  refine (size_any A n c zs w h hn).mono ?_
  rintro e w' ⟨hk, r', hr', rfl⟩
  rw [hr'.unique hr fun _ => Iff.rfl]
  exact ⟨rfl, hk⟩
end Go.Proofs.Ytdjhdcomoilhjaa
