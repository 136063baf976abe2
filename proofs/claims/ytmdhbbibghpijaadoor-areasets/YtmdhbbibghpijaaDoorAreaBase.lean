/- An area in memory: for each label a list of spans; at. -/
import Derived.Test.YtmdhbbibghpijaaDoorIvlBag
namespace Go.Proofs.YtmdhbbibghpijaaDoor
open Go.RowKit

theorem arg_none (w : World) : Arg w none 0 0 [] := ⟨Prs.nil _ _ _, Nat.le_refl _, fun _ => rfl, by simp⟩
theorem bg_none (w : World) {f : Int → Bool} (h : ∀ k, f k = false) : Bg w none 0 0 f := ⟨[], arg_none w, fun k => by rw [h k]; rfl⟩
theorem Bg.congr {w : World} {A : Option Addr} {n c : Nat} {f g : Int → Bool} (h : Bg w A n c f) (e : ∀ k, f k = g k) : Bg w A n c g := by
  have : f = g := funext e
  rwa [← this]
/-- The slice at A of length n holds, label by label, spans of just the keys of f, at most N of them. -/
structure Area (w : World) (A : Option Addr) (n N : Nat) (f : Nat → Int → Bool) : Prop where
  out : ∀ i, n ≤ i → ∀ k, f i k = false
  row : ∀ i, i < n → ∃ b off a l c, A = some ⟨b, off, none⟩ ∧ b < w.heap.size ∧ w.cell? ⟨b, off + i, none⟩ = some (.slice a l c) ∧ Bg w a l c (f i) ∧ l ≤ N
theorem Area.keep {w w' : World} {A : Option Addr} {n N : Nat} {f : Nat → Int → Bool} (h : Area w A n N f) (hk : Keep w w') : Area w' A n N f :=
  ⟨h.out, fun i hi => by
    obtain ⟨b, off, a, l, c, e, hb, hc, hg, hl⟩ := h.row i hi
    exact ⟨b, off, a, l, c, e, Nat.lt_of_lt_of_le hb hk.size, (hk.cell (p := ⟨b, off + i, none⟩) hb).trans hc, hg.keep hk, hl⟩⟩
theorem Area.more {w : World} {A : Option Addr} {n N N' : Nat} {f : Nat → Int → Bool} (h : Area w A n N f) (hN : N ≤ N') : Area w A n N' f :=
  ⟨h.out, fun i hi => by
    obtain ⟨b, off, a, l, c, e, hb, hc, hg, hl⟩ := h.row i hi
    exact ⟨b, off, a, l, c, e, hb, hc, hg, Nat.le_trans hl hN⟩⟩
theorem Area.congr {w : World} {A : Option Addr} {n N : Nat} {f g : Nat → Int → Bool} (h : Area w A n N f) (e : ∀ i k, f i k = g i k) : Area w A n N g := by
  have : f = g := funext fun i => funext fun k => e i k
  rwa [← this]
theorem area_nil (w : World) (A : Option Addr) (N : Nat) : Area w A 0 N (fun _ _ => false) := ⟨fun _ _ _ => rfl, fun i hi => by omega⟩
/-- The keys of a label, whichever number it has. -/
def fz (f : Nat → Int → Bool) (i : Int) : Int → Bool := fun k => if i < 0 then false else f i.toNat k
theorem fz_nat (f : Nat → Int → Bool) (i : Nat) : fz f (i : Int) = f i := by
  funext k
  unfold fz
  rw [if_neg (by omega), Int.toNat_natCast]
/-- What at answers. -/
def AtPost (w0 w : World) (N : Nat) (g : Int → Bool) (e : Ending) (w' : World) : Prop := ∃ a l c, e = .returned (.slice a l c) ∧ Bg w0 a l c g ∧ l ≤ N ∧ w' = w
set_option maxHeartbeats 1000000 in
theorem at_any {w0 w : World} {A : Option Addr} {n c N : Nat} {f : Nat → Int → Bool} (i : Int) (h : Area w0 A n N f) (hk : Keep w0 w) :
    Calls Tryd.prog 42 #[.slice A n c, .int .i64 i] w (AtPost w0 w N (fz f i)) := by
  by_cases hneg : i < 0
  · have hb := bg_none w0 (f := fz f i) (fun k => if_pos hneg)
    have HB := Lib.hid hb
    clear h hb hk
    go_enter Tryd.func42, Tryd.ntmps42
    go_wp2
    exact bodyPost_ret (v := .slice none 0 0) (by simp [results, Tryd.f42, go_sem]) rfl ⟨none, 0, 0, rfl, HB.out, Nat.zero_le _, rfl⟩
  · obtain ⟨j, rfl⟩ : ∃ j : Nat, i = j := ⟨i.toNat, by omega⟩
    rw [fz_nat]
    by_cases hlt : j < n
    · obtain ⟨b, off, a, l, c', e, hb, hc, hg, hl⟩ := h.row j hlt
      subst e
      have HG := Lib.hid hg
      have hjm : (j : Int) < (n : Int) := by omega
      have HL := Lib.hid hl
      replace hc := (hk.cell (p := ⟨b, off + j, none⟩) hb).trans hc
      clear h hg hl hneg hk hb
      go_enter Tryd.func42, Tryd.ntmps42
      go_wp2
      exact bodyPost_ret (v := .slice a l c') (by simp [results, Tryd.f42, go_sem]) rfl ⟨a, l, c', rfl, HG.out, HL.out, rfl⟩
    · have hb := bg_none w0 (f := f j) (h.out j (by omega))
      have HB := Lib.hid hb
      have hjm : (n : Int) ≤ (j : Int) := by omega
      clear h hb hneg hk
      go_enter Tryd.func42, Tryd.ntmps42
      go_wp2
      exact bodyPost_ret (v := .slice none 0 0) (by simp [results, Tryd.f42, go_sem]) rfl ⟨none, 0, 0, rfl, HB.out, Nat.zero_le _, rfl⟩
end Go.Proofs.YtmdhbbibghpijaaDoor
