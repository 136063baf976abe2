/- fit.Of: the number with bits at the places of a list; a list that lies in memory. -/
import Derived.Test.YtoilbmhijjkkaaaDoorFitPlaces
import Derived.Test.YtoilbmhijjkkaaaDoorFitPlain
import Derived.WalkKit
import Derived.WalkSpells
import Derived.WalkLawsBesides
namespace Go.Proofs.YtoilbmhijjkkaaaDoor
open Go.RowKit

/-- The slice at A of length n holds xs, each in one cell, in a block below B. -/
def Lies (w : World) (B : Nat) (A : Option Addr) (n : Nat) (xs : List Value) : Prop :=
  xs.length = n ∧ (0 < n → ∃ b off, A = some ⟨b, off, none⟩ ∧ b < B ∧ ∀ k, k < n → w.cell? ⟨b, off + k, none⟩ = some (xs.getD k undef))
theorem Lies.below {w w' : World} {B : Nat} {A : Option Addr} {n : Nat} {xs : List Value} (h : Lies w B A n xs) (hb : Below B w w') : Lies w' B A n xs :=
  ⟨h.1, fun hn => by
    obtain ⟨b, off, e, hB, hc⟩ := h.2 hn
    exact ⟨b, off, e, hB, fun k hk => (hb.cell (p := ⟨b, off + k, none⟩) hB).trans (hc k hk)⟩⟩
theorem Lies.of_row {w : World} {base : Nat} {e : TypeId} {v : Value} {n : Nat} {xs : List Value} (h : w.ownsRow base e 1 v n xs) : ∃ A c, v = .slice A n c ∧ Lies w w.heap.size A n xs := by
  rcases h.2 with ⟨rfl, rfl⟩ | ⟨g, cap, cur, rfl, hb, hg, _⟩
  · exact ⟨none, 0, rfl, by simpa using h.1, fun h0 => by omega⟩
  · refine ⟨_, cap, rfl, by simpa using h.1, fun _ => ⟨g, 0, rfl, (Array.getElem?_eq_some_iff.1 hg).1, fun k hk => ?_⟩⟩
    have hl : k < xs.length := by have := h.1; omega
    have := h.cells (g := g) rfl k xs[k] (List.getElem?_eq_getElem hl)
    have e2 : (⟨g, 0, none⟩ : Addr).add k = ⟨g, 0 + k, none⟩ := by unfold Addr.add; split <;> simp_all
    rw [← e2, this, List.getD_eq_getElem?_getD, List.getElem?_eq_getElem hl]; rfl

def putBit (n : Nat) (z : Int) : Nat := if 0 ≤ z ∧ z < 64 then n ||| 2 ^ z.toNat else n
/-- The number with bits at the places. -/
def ofN (zs : List Int) : Nat := zs.foldl putBit 0
theorem ofN_snoc (zs : List Int) (z : Int) : ofN (zs ++ [z]) = putBit (ofN zs) z := by simp [ofN]
theorem putBit_lt (n : Nat) (z : Int) (h : n < 18446744073709551616) : putBit n z < 18446744073709551616 := by
  unfold putBit
  split
  · rename_i hz
    have : 2 ^ z.toNat < 2 ^ 64 := Nat.pow_lt_pow_right (by decide) (by omega)
    exact Nat.or_lt_two_pow (n := 64) h this
  · exact h
theorem foldl_putBit_lt : ∀ (zs : List Int) (n : Nat), n < 18446744073709551616 → zs.foldl putBit n < 18446744073709551616
  | [], _, h => h
  | z :: zs, n, h => foldl_putBit_lt zs _ (putBit_lt n z h)
theorem ofN_lt (zs : List Int) : ofN zs < 18446744073709551616 := foldl_putBit_lt zs 0 (by decide)

theorem or_key (m : Nat) (z : Int) (hm : m < 18446744073709551616) (h2 : z < 64) : bits BinOp.or IntKind.u64 (m : Int) (IntKind.u64.wrap (2 ^ z.toNat)) = ((m ||| 2 ^ z.toNat : Nat) : Int) := by
  have h3 : 2 ^ z.toNat < 2 ^ 64 := Nat.pow_lt_pow_right (by decide) (by omega)
  have e : IntKind.u64.wrap (2 ^ z.toNat) = ((2 ^ z.toNat : Nat) : Int) := by
    rw [IntKind.wrap_u64, show ((2 : Int) ^ z.toNat) = ((2 ^ z.toNat : Nat) : Int) from by simp]
    generalize 2 ^ z.toNat = y at *
    omega
  rw [e, bits_or_u64_nat _ _ hm (by omega)]

def ints (zs : List Int) : List Value := zs.map fun z => Value.int .i64 z
theorem ints_getD (zs : List Int) (k : Nat) (h : k < zs.length) : (ints zs).getD k undef = .int .i64 (zs.getD k 0) := by
  simp [ints, List.getD_eq_getElem?_getD, h]

set_option maxHeartbeats 400000 in
theorem of_any (A : Option Addr) (n c : Nat) (zs : List Int) (w : World) (B : Nat) (hn : n ≤ maxLen) (hl : Lies w B A n (ints zs)) :
    Calls Tryd.prog 26 #[.slice A n c] w fun e w' => e = .returned (.int .u64 (ofN zs)) ∧ w = w' := by
  unfold maxLen at hn
  have hlen : zs.length = n := by simpa [ints] using hl.1
  have HL := Lib.hid hlen
  clear hlen
  go_enter Tryd.func26, Tryd.ntmps26
  go_wp2
  go_loop [3, 8] (fun t i => ∃ k : Nat, k ≤ n ∧ i = .int .i64 k ∧ t = .int .u64 (ofN (zs.take k))) (fun _ i => n - (intOf i).toNat)
  case atStart => exact ⟨0, Nat.zero_le _, rfl, rfl⟩
  case round =>
    obtain ⟨k, hk, rfl, rfl⟩ := hrel
    by_cases hlt : k < n
    · obtain ⟨b, off, rfl, hB, hc⟩ := hl.2 (by omega)
      have hcell : w.cell? ⟨b, off + k, none⟩ = some (.int .i64 (zs.getD k 0)) := by rw [hc k hlt, ints_getD _ _ (by rw [HL.out]; exact hlt)]
      have htk : zs.take (k + 1) = zs.take k ++ [zs.getD k 0] := by
        have hkl : k < zs.length := by rw [HL.out]; exact hlt
        rw [List.take_succ_eq_append_getElem hkl, List.getD_eq_getElem?_getD, List.getElem?_eq_getElem hkl]; rfl
      have HS := Lib.hid (show ofN (zs.take (k + 1)) = putBit (ofN (zs.take k)) (zs.getD k 0) by rw [htk, ofN_snoc])
      have hlo := ofN_lt (zs.take k)
      clear htk hc hl
      generalize ofN (zs.take k) = m at *
      generalize zs.getD k 0 = z at *
      by_cases h1 : 0 ≤ z
      · by_cases h2 : z < 64
        · go_wp2
          go_round
          case rel => exact ⟨k + 1, by omega, by go_num, by rw [HS.out, or_key m z hlo h2, putBit, if_pos ⟨h1, h2⟩]⟩
          case measure => simp [intOf]; omega
        · go_wp2
          go_round
          case rel => exact ⟨k + 1, by omega, by go_num, by rw [HS.out, putBit, if_neg (by omega)]⟩
          case measure => simp [intOf]; omega
      · have hd : decide (0 ≤ z) = false := by simpa using h1
        go_wp2
        go_round
        case rel => exact ⟨k + 1, by omega, by go_num, by rw [HS.out, putBit, if_neg (by omega)]⟩
        case measure => simp [intOf]; omega
    · go_wp2
      go_ret
      exact ⟨ret_int (by rw [List.take_of_length_le (by rw [HL.out]; omega)]), rfl⟩
end Go.Proofs.YtoilbmhijjkkaaaDoor
