/- ivl.Union, Minus, Within. -/
import Derived.Test.YtmdhbbibghpijaaDoorIvlCat
namespace Go.Proofs.YtmdhbbibghpijaaDoor
open Go.RowKit

theorem mem_key {zs : List Sp} {k : Int} (hok : ∀ s ∈ zs, s.ok) (h : mem zs k) : isKey k := by
  obtain ⟨s, hs, h1, h2⟩ := h
  obtain ⟨⟨o1, o2⟩, o3, o4⟩ := hok s hs
  unfold isKey
  omega
theorem Gives.congr {w w' : World} {P P' : Int → Prop} {N N' : Nat} {e : Ending} (h : Gives w P N e w') (hp : ∀ k, P k ↔ P' k) (hN : N ≤ N') : Gives w P' N' e w' := by
  obtain ⟨hk, A, c, r, h1, h2, h3, h4, h5, h6⟩ := h
  exact ⟨hk, A, c, r, h1, h2, h3, h4, Nat.le_trans h5 hN, h6.congr hp⟩
theorem Gives.from {w w0 w' : World} {P : Int → Prop} {N : Nat} {e : Ending} (h : Gives w P N e w') (hk : Keep w0 w) : Gives w0 P N e w' := by
  obtain ⟨h0, A, c, r, h1, h2, h3, h4, h5, h6⟩ := h
  exact ⟨hk.trans h0, A, c, r, h1, h2, h3, h4.mono hk.size, h5, h6⟩

set_option maxHeartbeats 1000000 in
theorem union_any (A : Option Addr) (n c : Nat) (us : List Sp) (B : Option Addr) (n2 c2 : Nat) (vs : List Sp) (w : World) (h : Arg w A n c us) (h2 : Arg w B n2 c2 vs) (hn : n ≤ 50000) (hn2 : n2 ≤ 50000) :
    Calls Tryd.prog 33 #[.slice A n c, .slice B n2 c2] w (Gives w (fun k => mem us k ∨ mem vs k) (n + n2)) := by
  have hk0 := (Keep.refl w).alloc (.cells #[.slice A n c, .slice B n2 c2] 32)
  have hblk : (w.alloc (.cells #[.slice A n c, .slice B n2 c2] 32)).heap[w.heap.size]? = some (.cells #[.slice A n c, .slice B n2 c2] 32 (0, 0)) := World.alloc_heap_new _ _
  have hlt : w.heap.size < (w.alloc (.cells #[.slice A n c, .slice B n2 c2] 32)).heap.size := by simp
  have HA := Lib.hid (h.keep hk0)
  have HB := Lib.hid (h2.keep hk0)
  have HOK := Lib.hid (show ∀ s ∈ us ++ vs, s.ok from fun s hs => (List.mem_append.1 hs).elim (h.ok s) (h2.ok s))
  have HL := Lib.hid (show (us ++ vs).length = n + n2 by rw [List.length_append, h.len, h2.len])
  have p0 : (w.alloc (.cells #[.slice A n c, .slice B n2 c2] 32)).cell? ⟨w.heap.size, 0, none⟩ = some (.slice A n c) := by
    generalize w.alloc (.cells #[.slice A n c, .slice B n2 c2] 32) = W at *
    simp [World.cell?, hblk]
  have p1 : (w.alloc (.cells #[.slice A n c, .slice B n2 c2] 32)).cell? ⟨w.heap.size, 1, none⟩ = some (.slice B n2 c2) := by
    generalize w.alloc (.cells #[.slice A n c, .slice B n2 c2] 32) = W at *
    simp [World.cell?, hblk]
  have HC := Lib.hid (concat_two w.heap.size A n c us B n2 c2 vs _ HA.out HB.out hn hn2 p0 p1 hlt)
  clear h h2 p0 p1 hblk hlt HA HB
  go_enter Tryd.func33, Tryd.ntmps33
  go_wp2_with fail
  go_at_call 59
  refine HC.out.mono ?_
  rintro e w1 ⟨A1, c1, rfl, hO1, hk1⟩
  have hO1' : Own w1 (w.alloc (.cells #[.slice A n c, .slice B n2 c2] 32)).heap.size A1 (us ++ vs).length c1 (us ++ vs) := by rw [HL.out]; exact hO1
  obtain ⟨g1, g2, g3⟩ := own_gives hO1'
  rw [HL.out] at g1
  have HG := Lib.hid (And.intro g1 (And.intro g2 g3))
  clear hO1 hO1' g1 g2 g3 HC
  go_wp2_with fail
  go_at_call 29
  refine (make_any A1 (n + n2) c1 (us ++ vs) w1 HG.out.1 HG.out.2.2.1 (by omega) HOK.out).mono ?_
  intro e w2 hg
  obtain ⟨hk2, A2, c2', r, rfl, q1, q2, q3, q4, q5⟩ := hg
  go_wp2
  go_ret
  exact ⟨(hk0.trans hk1).trans hk2, A2, c2', r, rfl, q1, q2, q3.mono (hk0.trans hk1).size, q4, q5.congr (fun k => mem_append)⟩

set_option maxHeartbeats 1000000 in
theorem minus_any (A : Option Addr) (n c : Nat) (us : List Sp) (B : Option Addr) (n2 c2 : Nat) (vs : List Sp) (w : World) (h : Arg w A n c us) (h2 : Arg w B n2 c2 vs) (hn : n ≤ 40000) (hn2 : n2 ≤ 40000) :
    Calls Tryd.prog 35 #[.slice A n c, .slice B n2 c2] w (Gives w (fun k => mem us k ∧ ¬ mem vs k) (n + n2 + 1)) := by
  have HA := Lib.hid h
  have HC := Lib.hid (not_any B n2 c2 vs w h2 (by omega))
  clear h h2
  go_enter Tryd.func35, Tryd.ntmps35
  go_wp2_with fail
  go_at_call 61
  refine HC.out.mono ?_
  intro e w1 hg
  obtain ⟨hk1, A1, c1, r, rfl, ha1, hr1, hs1⟩ := gives_arg hg
  have HR := Lib.hid (And.intro ha1 hs1)
  clear hg ha1 hs1 HC
  go_wp2_with fail
  go_at_call 34
  refine (meet_any A n c us A1 r.length c1 r w1 (HA.out.keep hk1) HR.out.1 (by omega) (by omega)).mono ?_
  intro e w2 hg
  obtain ⟨hk2, A2, c2', r2, rfl, q1, q2, q3, q4, q5⟩ := hg
  go_wp2
  go_ret
  refine ⟨hk1.trans hk2, A2, c2', r2, rfl, q1, q2, q3.mono hk1.size, by omega, q5.congr (fun k => ?_)⟩
  rw [HR.out.2.mem k]
  exact ⟨fun ⟨g1, _, g2⟩ => ⟨g1, g2⟩, fun ⟨g1, g2⟩ => ⟨g1, mem_key HA.out.ok g1, g2⟩⟩

theorem isSet_nil {r : List Sp} {P : Int → Prop} (h : IsSet r P) : r.length = 0 ↔ ∀ k, ¬ P k := by
  constructor
  · intro h0 k hk
    have : r = [] := List.eq_nil_of_length_eq_zero h0
    subst this
    exact mem_nil k ((h.mem k).2 hk)
  · intro hn
    cases r with
    | nil => rfl
    | cons x xs => exact absurd ((h.mem x.lo).1 (mem_cons.2 (.inl ⟨Int.le_refl _, h.rt.1 x (by simp)⟩))) (hn x.lo)
set_option maxHeartbeats 1000000 in
theorem within_any (A : Option Addr) (n c : Nat) (us : List Sp) (B : Option Addr) (n2 c2 : Nat) (vs : List Sp) (v : Bool) (w : World) (h : Arg w A n c us) (h2 : Arg w B n2 c2 vs) (hn : n ≤ 40000) (hn2 : n2 ≤ 40000) (hv : v = true ↔ ∀ k, mem us k → mem vs k) :
    Calls Tryd.prog 45 #[.slice A n c, .slice B n2 c2] w fun e w' => e = .returned (.bool v) ∧ Keep w w' := by
  have HC := Lib.hid (minus_any A n c us B n2 c2 vs w h h2 hn hn2)
  have HV := Lib.hid hv
  clear h h2 hv
  go_enter Tryd.func45, Tryd.ntmps45
  go_wp2_with fail
  go_at_call 35
  refine HC.out.mono ?_
  intro e w1 hg
  obtain ⟨hk1, A1, c1, r, rfl, -, -, -, -, hs⟩ := hg
  have hz : ((r.length : Int) == 0) = v := by
    have h1 := isSet_nil hs
    have h2 : r.length = 0 ↔ v = true := by
      rw [h1, HV.out]
      exact ⟨fun g k hk => Classical.byContradiction fun hn => g k ⟨hk, hn⟩, fun g k ⟨g1, g2⟩ => g2 (g k g1)⟩
    cases v
    · have : ¬ r.length = 0 := fun e => by simpa using h2.1 e
      simp; exact fun e => this (by rw [e]; rfl)
    · have : r.length = 0 := h2.2 rfl
      simp [this]
  generalize r.length = m at *
  clear hs
  go_wp2
  go_ret
  exact ⟨rfl, hk1⟩
end Go.Proofs.YtmdhbbibghpijaaDoor
