/- Clocks of the caller's own: what each call answers of them. -/
import Derived.Test.YthfiepgonjfapaaClkAlive
import Derived.Test.YthfiepgonjfapaaArr2
import Derived.OpenShut
namespace Go.Proofs.Ythfiepgonjfapaa
open Go.RowKit

theorem Lies.up {w w' : World} {A : Option Addr} {n : Nat} {xs : List Value} (h : Lies w w.heap.size A n xs) (hk : Keep w w') : Lies w' w'.heap.size A n xs := (h.below hk).more hk.size
/-- A clock of one's own. -/
structure Own (w0 : World) (b : Nat) (c : Int) (w : World) : Prop where
  clk : Clk w b c
  keep : Keep w0 w
  lo : w0.heap.size ≤ b
  ok0 : 0 ≤ c
  ok1 : c ≤ 1125899906842624
theorem Own.new (w0 w : World) (hk : Keep w0 w) : Own w0 w.heap.size 0 (w.alloc (.cells #[.int .i64 0] 25)) := ⟨Clk.new w 0, hk.alloc _, hk.size, by decide, by decide⟩
theorem Own.kept {w0 w w' : World} {b : Nat} {c : Int} (h : Own w0 b c w) (hk : Keep w w') : Own w0 b c w' := ⟨h.clk.keep hk, h.keep.trans hk, h.lo, h.ok0, h.ok1⟩
theorem Own.only {S : Nat → Prop} {w0 w w' : World} {b : Nat} {c : Int} (h : Own w0 b c w) (ho : Only S w w') (hb : ¬ S b) (hS : ∀ k, S k → w0.heap.size ≤ k) : Own w0 b c w' := ⟨h.clk.only ho hb, Only.keep h.keep ho hS, h.lo, h.ok0, h.ok1⟩
section
variable {w0 w : World} {b : Nat} {c : Int}
theorem o_tick (n d : Int) (h : Own w0 b c w) (hn : inI n) (hd : later c n = d) :
    Calls Try.prog 11 #[.pointer (some ⟨b, 0, none⟩), .int .i64 n] w fun e w' => e = .returned (.int .i64 d) ∧ Own w0 b d w' ∧ Only (fun k => k = b) w w' :=
  (tick_of b c n d w h.clk h.ok0 h.ok1 hn hd).mono fun _ _ ⟨h1, h2, h3⟩ => ⟨h1, ⟨h2, Only.keep h.keep h3 (fun k hk => by rw [hk]; exact h.lo), h.lo, by rw [← hd]; have := later_ge (n := n) h.ok1; have := h.ok0; omega, by rw [← hd]; exact later_le h.ok1⟩, h3⟩
theorem o_after (n d : Int) (h : Own w0 b c w) (hn : inI n) (hd : later c n = d) :
    Calls Try.prog 10 #[.pointer (some ⟨b, 0, none⟩), .int .i64 n] w fun e w' => e = .returned (.int .i64 d) ∧ w = w' := after_of b c n d w h.clk h.ok0 h.ok1 hn hd
theorem o_now (h : Own w0 b c w) : Calls Try.prog 12 #[.pointer (some ⟨b, 0, none⟩)] w fun e w' => e = .returned (.int .i64 c) ∧ w = w' := now_is b c w h.clk
theorem o_past (t : Int) (v : Bool) (h : Own w0 b c w) (hv : decide (t ≤ c) = v) : Calls Try.prog 13 #[.pointer (some ⟨b, 0, none⟩), .int .i64 t] w fun e w' => e = .returned (.bool v) ∧ w = w' := past_is b c t v w h.clk hv
end
theorem row_at {w : World} {b off n : Nat} {zs : List Int} {j : Nat} {v : Int} (h : Lies w w.heap.size (some ⟨b, off, none⟩) n (vals .i64 zs)) (hj : j < n) (hv : zs[j]? = some v) : w.cell? ⟨b, off + j, none⟩ = some (.int .i64 v) := by
  obtain ⟨b', off', e, hb, hc⟩ := h.2 (by omega)
  cases e
  rw [hc j hj, vals_get hv]
theorem row_addr {w : World} {A : Option Addr} {n : Nat} {zs : List Int} (h : Lies w w.heap.size A n (vals .i64 zs)) (hn : 0 < n) : ∃ b off, A = some ⟨b, off, none⟩ := by
  obtain ⟨b', off', e, hb, hc⟩ := h.2 hn
  exact ⟨b', off', e⟩
end Go.Proofs.Ythfiepgonjfapaa
