/- Join of one row of bytes; a reader whose bytes lie in memory of its own. -/
import Derived.Test.YtoilbmhijjkkaabRefPut
import Derived.Test.YtoilbmhijjkkaabOctRead
namespace Go.Proofs.Ytoilbmhijjkkaab
open Go.RowKit

set_option maxRecDepth 100000 in
set_option maxHeartbeats 1000000 in
theorem join_one (g : Nat) (A : Option Addr) (n c : Nat) (xs : List Int) (w : World) (B : Nat) (hB : B ≤ w.heap.size) (hg : w.heap[g]? = some (.cells #[.slice A n c] 25 (0, 0))) (hl : Lies w B A n (vals .u8 xs)) (hn : A = none → c = 0) (h200 : n ≤ 200) :
    Calls Try.prog 18 #[.slice (some ⟨g, 0, none⟩) 1 1] w fun e w' => ∃ v, e = .returned v ∧ w'.ownsRow w.heap.size 5 1 v n (vals .u8 xs) ∧ Keep w w' := by
  obtain ⟨i0, hi, hz0, hz1, hz2⟩ := info_parts infoU8
  have hgl : g < w.heap.size := (Array.getElem?_eq_some_iff.1 hg).1
  have HG := Lib.hid hg
  have HL := Lib.hid hl
  have HN := Lib.hid hn
  clear hg hl hn
  go_enter Try.func18, Try.ntmps18
  go_wp2_with fail
  go_loopw [3, 4] (fun v i wr => ∃ (j : Nat), (j = 0 ∨ j = 1) ∧ i = .int .i64 j ∧ wr.ownsRow w.heap.size 5 1 v (j * n) (vals .u8 (if j = 0 then [] else xs)) ∧ Keep w wr) (fun _ i _ => 1 - (intOf i).toNat)
  case atStart => exact ⟨0, .inl rfl, rfl, by simpa [vals] using World.ownsRow_made (base := w.heap.size) (e := 5) (size := 1) w #[] 0 (Nat.le_refl _) (Nat.zero_le _) rfl, (Keep.refl w).alloc _⟩
  case round =>
    obtain ⟨j, hj, rfl, hrow, hk⟩ := hrel
    obtain ⟨Av, cv, rfl, -⟩ := Lies.of_row hrow
    rcases hj with rfl | rfl
    · have hc : wr.cell? ⟨g, 0, none⟩ = some (.slice A n c) := by
        have := (hk.block g hgl).trans HG.out
        simp [World.cell?, this]
      have HLw := Lib.hid (HL.out.below (Below.mono hk hB))
      have hs := hk.size
      have hrow' : wr.ownsRow w.heap.size 5 1 (.slice Av 0 cv) 0 [] := by simpa [vals] using hrow
      clear hrow
      simp only [Nat.zero_mul]
      go_wp2_with (at_builtin; refine wpList_append_from rfl _ _ 25 rfl w.heap.size 5 i0 (.int .u8 0) 1 Try.underlying25 hi hz0 hz1 hz2 rfl _ 0 [] rfl hrow' B A n c (vals .u8 xs) rfl HLw.out HN.out (vals_one _ _) (by unfold maxLen; omega) (by omega) hs ?_; intro A3 c3 w3 hown3 hgrow hat)
      have hk3 : Keep w w3 := Only.keep hk ((Only.refl (fun k => (Value.slice Av 0 cv).ownBlock = some k) _).grown hgrow (fun k _ e => e)) (fun k e => (hrow'.lt k e).1)
      rw [Nat.zero_add, List.nil_append] at hown3
      go_roundw
      case rel => exact ⟨1, .inr rfl, by go_num, by simpa using hown3, hk3⟩
      case measure => simp [intOf]
    · go_wp2
      go_ret
      exact ⟨_, rfl, by simpa using hrow, hk⟩

/-- A reader in block b whose bytes lie at lo or behind. -/
def RdFrom (lo : Nat) (w : World) (b : Nat) (bad : Bool) (xs : List Int) : Prop :=
  ∃ A c, w.heap[b]? = some (.cells #[.slice A xs.length c, .bool bad] 65 (0, 0)) ∧ Lies w b A xs.length (vals .u8 xs) ∧ xs.length ≤ c ∧ (A = none → c = 0) ∧ ∀ p, A = some p → lo ≤ p.block
theorem RdFrom.rd {lo : Nat} {w : World} {b : Nat} {bad : Bool} {xs : List Int} (h : RdFrom lo w b bad xs) : Rd w b bad xs := by
  obtain ⟨A, c, h1, h2, h3, h4, _⟩ := h
  exact ⟨A, c, h1, h2, h3, h4⟩
theorem RdFrom.only {lo : Nat} {w w' : World} {b g : Nat} {bad : Bool} {xs : List Int} (h : RdFrom lo w b bad xs) (ho : Only (fun k => k = g) w w') (hg : g < lo) (hb : lo ≤ b) : RdFrom lo w' b bad xs := by
  have hlt := h.rd.lt
  obtain ⟨A, c, h1, h2, h3, h4, h5⟩ := h
  exact ⟨A, c, (ho.block b hlt (by omega)).trans h1, h2.only ho (Nat.le_of_lt hlt) (fun b' off e hS => by have := h5 _ e; simp at this; omega), h3, h4, h5⟩
theorem row_cap' {w : World} {base : Nat} {e : TypeId} {A : Option Addr} {n' c n : Nat} {xs : List Value} (h : w.ownsRow base e 1 (.slice A n' c) n xs) : n' ≤ c := by
  rcases h.2 with ⟨e, _⟩ | ⟨g, cap, cur, e, _, _, h1, _⟩
  · injection e with _ e2 e3; omega
  · injection e with _ e2 e3; omega
set_option maxHeartbeats 400000 in
theorem open_from (A : Option Addr) (n c : Nat) (zs : List Int) (w : World) (B : Nat) (hn : n ≤ 140737488355328) (hB : B ≤ w.heap.size) (hl : Lies w B A n (vals .u8 zs)) :
    Calls Try.prog 19 #[.slice A n c] w fun e w' => ∃ b, e = .returned (.pointer (some ⟨b, 0, none⟩)) ∧ w.heap.size ≤ b ∧ RdFrom w.heap.size w' b false zs ∧ Keep w w' := by
  have HC := Lib.hid (clone_any A n c zs w B hn hB hl)
  have hzl : zs.length = n := by have := hl.1; rwa [vals_length] at this
  have HZ := Lib.hid hzl
  clear hl hzl
  go_enter Try.func19, Try.ntmps19
  go_wp2_with (go_at_call 32; refine HC.out.mono ?_; rintro e w1 ⟨v', rfl, h1, h2⟩; obtain ⟨A1, c1, rfl, hl1⟩ := Lies.of_row h1)
  go_ret
  refine ⟨w1.heap.size, rfl, h2.size, ?_, h2.alloc _⟩
  rw [← HZ.out] at hl1 h1 ⊢
  refine ⟨A1, c1, World.alloc_heap_new _ _, hl1.below ((Below.refl _ _).alloc (Nat.le_refl _) _), row_cap' h1, row_nil h1, ?_⟩
  intro p e
  subst e
  exact (h1.lt _ rfl).1
end Go.Proofs.Ytoilbmhijjkkaab
