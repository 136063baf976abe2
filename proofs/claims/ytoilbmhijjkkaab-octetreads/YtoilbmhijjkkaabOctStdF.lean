/- OctetReads, for every argument. -/
import Derived.Test.YtoilbmhijjkkaabOctLawF
namespace Go.Proofs.Ytoilbmhijjkkaab
open Go.RowKit

theorem OctetReads_std (a0 : Option Addr) (l0 c0 : Nat) (z0 : List Int) (a1 : Option Addr) (l1 c1 : Nat) (z1 : List OpV) (w : World) (h0 : Arr .u8 w a0 l0 z0) (hc : l0 ≤ c0 ∧ (a0 = none → c0 = 0)) (h1 : Ops w a1 l1 z1) :
    Calls Try.prog 4 #[.slice a0 l0 c0, .slice a1 l1 c1] w fun e w' => e = .returned (.bool true) ∧ Below w.heap.size w w' := by
  by_cases hn : l0 ≤ 200
  · by_cases hm : l1 ≤ 60
    · exact reads_core a0 l0 c0 z0 a1 l1 c1 z1 w h0.2.1 hc.2 hc.1 (fun x hx => by have := bounds_u8 (h0.2.2 x hx); omega) h1 hn hm
    · exact reads_long a0 l0 c0 a1 l1 c1 w (.inr ⟨by simp; omega, by simp; omega⟩)
  · exact reads_long a0 l0 c0 a1 l1 c1 w (.inl (by simp; omega))
end Go.Proofs.Ytoilbmhijjkkaab
