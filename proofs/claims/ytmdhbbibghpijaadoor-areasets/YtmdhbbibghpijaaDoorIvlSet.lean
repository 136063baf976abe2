/- ivl.setOf, Size, Same, Not. -/
import Derived.Test.YtmdhbbibghpijaaDoorIvlMake
namespace Go.Proofs.YtmdhbbibghpijaaDoor
open Go.RowKit

/-- Spans that are handed in: a slice, its list. -/
structure Arg (w : World) (A : Option Addr) (n c : Nat) (zs : List Sp) : Prop where
  prs : SpS w w.heap.size A n zs
  cap : n ≤ c
  nil : A = none → c = 0
  ok : ∀ s ∈ zs, s.ok
theorem Arg.keep {w w' : World} {A : Option Addr} {n c : Nat} {zs : List Sp} (h : Arg w A n c zs) (hk : Keep w w') : Arg w' A n c zs := ⟨h.prs.up hk, h.cap, h.nil, h.ok⟩
theorem Arg.len {w : World} {A : Option Addr} {n c : Nat} {zs : List Sp} (h : Arg w A n c zs) : zs.length = n := h.prs.len
theorem gives_arg {w w' : World} {P : Int → Prop} {N : Nat} {e : Ending} (h : Gives w P N e w') : Keep w w' ∧ ∃ A c r, e = .returned (.slice A r.length c) ∧ Arg w' A r.length c r ∧ r.length ≤ N ∧ IsSet r P := by
  obtain ⟨hk, A, c, r, h1, h2, h3, h4, h5, h6⟩ := h
  exact ⟨hk, A, c, r, h1, ⟨h2, h3, h4.1, h6.ok⟩, h5, h6⟩

/-- The same, of what may be the slice that came in. -/
def GivesA (w : World) (P : Int → Prop) (N : Nat) (e : Ending) (w' : World) : Prop :=
  Keep w w' ∧ ∃ A c r, e = .returned (.slice A r.length c) ∧ Arg w' A r.length c r ∧ r.length ≤ N ∧ IsSet r P
theorem setof_any (A : Option Addr) (n c : Nat) (zs : List Sp) (w : World) (h : Arg w A n c zs) (hn : n ≤ 100000) :
    Calls Tryd.prog 60 #[.slice A n c] w (GivesA w (mem zs) n) := by
  have hl := h.len
  have HA := Lib.hid h
  by_cases hr : Rt zs
  · have HC := Lib.hid (right_any A n c zs true w h.prs h.ok (by omega) (by simp [hr]))
    clear h
    go_enter Tryd.func60, Tryd.ntmps60
    go_wp2_with (go_at_call 75; refine HC.out.mono ?_; rintro e w1 ⟨rfl, hk1⟩)
    go_ret
    subst hl
    exact ⟨hk1, A, c, zs, rfl, HA.out.keep hk1, Nat.le_refl _, hr, fun _ => Iff.rfl, HA.out.ok⟩
  · have HC := Lib.hid (right_any A n c zs false w h.prs h.ok (by omega) (by simp [hr]))
    clear h
    go_enter Tryd.func60, Tryd.ntmps60
    go_wp2_with (first
      | (go_at_call 75; refine HC.out.mono ?_; rintro e w1 ⟨rfl, hk1⟩)
      | (go_at_call 29; refine (make_any A n c zs _ (HA.out.keep hk1).prs HA.out.nil hn HA.out.ok).mono ?_; rintro e w2 ⟨hk2, A2, c2, r, rfl, h1, h2, h3, h4, h5⟩))
    go_ret
    exact ⟨hk1.trans hk2, A2, c2, r, rfl, ⟨h1, h2, h3.1, h5.ok⟩, h4, h5⟩

theorem same_any (A : Option Addr) (n c : Nat) (xs : List Sp) (A2 : Option Addr) (n2 c2 : Nat) (ys : List Sp) (v : Bool) (w : World) (h : Arg w A n c xs) (h2 : Arg w A2 n2 c2 ys) (hn : n ≤ 100000) (hn2 : n2 ≤ 100000) (hv : v = true ↔ ∀ k, mem xs k ↔ mem ys k) :
    Calls Tryd.prog 46 #[.slice A n c, .slice A2 n2 c2] w fun e w' => e = .returned (.bool v) ∧ Keep w w' := by
  have HA := Lib.hid h
  have HB := Lib.hid h2
  have HV := Lib.hid hv
  clear h h2 hv
  go_enter Tryd.func46, Tryd.ntmps46
  go_wp2_with fail
  go_at_call 60
  refine (setof_any A n c xs w HA.out hn).mono ?_
  intro e w1 hg
  obtain ⟨hk1, A1, c1, r, rfl, ha1, hr1, hs1⟩ := hg
  go_wp2_with fail
  go_at_call 60
  refine (setof_any A2 n2 c2 ys w1 (HB.out.keep hk1) hn2).mono ?_
  intro e w2 hg
  obtain ⟨hk2, A3, c3, r3, rfl, ha3, hr3, hs3⟩ := hg
  have hve : v = true ↔ r = r3 := HV.out.trans ⟨fun hm => hs1.unique hs3 hm, fun e k => by rw [← hs1.mem k, e, hs3.mem k]⟩
  have HVE := Lib.hid hve
  have HA1 := Lib.hid (ha1.keep hk2)
  have HA3 := Lib.hid ha3
  have hl1 : r.length ≤ 1000000 := by omega
  have hl3 : r3.length ≤ 1000000 := by omega
  clear hve ha1 ha3 hs1 hs3
  go_wp2_with fail
  go_at_call 66
  refine (equal_is A1 r.length c1 A3 r3.length c3 r r3 v w2 HA1.out.prs HA3.out.prs hl1 hl3 HVE.out).mono ?_
  rintro e w3 ⟨rfl, hk3⟩
  go_wp2
  go_ret
  exact ⟨rfl, (hk1.trans hk2).trans hk3⟩

theorem szL_take {r : List Sp} {j : Nat} {x : Sp} (h : r[j]? = some x) : szL (r.take (j + 1)) = szL (r.take j) + (x.hi - x.lo + 1) := by
  rw [(take_snoc h).1, szL_append]
  simp [szL]
theorem szL_le {r : List Sp} (h : Rt r) (hok : ∀ s ∈ r, s.ok) : szL r ≤ 4294967296 := by
  rw [szL_cnt h hok]
  have := cnt_le (memB r) 4294967296
  omega
theorem Rt.take {r : List Sp} (h : Rt r) (j : Nat) : Rt (r.take j) := ⟨fun s hs => h.1 s (List.mem_of_mem_take hs), h.2.sublist (List.take_sublist j r)⟩

end Go.Proofs.YtmdhbbibghpijaaDoor
