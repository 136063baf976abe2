/- The walk of FitHalves. -/
import Derived.Test.YtoilbmhijjkkaaaDoorFitLawC
namespace Go.Proofs.YtoilbmhijjkkaaaDoor
open Go.RowKit

theorem ownsRow_keep {w w' : World} {base : Nat} {e : TypeId} {size : Nat} {v : Value} {n : Nat} {xs : List Value} (h : w.ownsRow base e size v n xs) (hk : Keep w w') : w'.ownsRow base e size v n xs := by
  refine ⟨h.1, ?_⟩
  rcases h.2 with h2 | ⟨g, cap, cur, a, b, c, d⟩
  · exact .inl h2
  · exact .inr ⟨g, cap, cur, a, b, (hk.block g (Array.getElem?_eq_some_iff.1 c).1).trans c, d⟩

theorem places_r (x : Int) (w : World) (hx : U64 x) (hT : Tab w) :
    Calls Tryd.prog 25 #[.int .u64 x, .int .i64 100] w fun e w' => ∃ g c, e = .returned (.slice (some ⟨g, 0, none⟩) (pcI x) c) ∧ w'.ownsRow w.heap.size 3 1 (.slice (some ⟨g, 0, none⟩) (pcI x) c) (pcI x) (rowOf (places x.toNat)) ∧ Tab w' ∧ Keep w w' := by
  obtain ⟨h0, h1⟩ := hx
  have hl := places_length x.toNat
  have htk : (places x.toNat).take 100 = places x.toNat := List.take_of_length_le (by omega)
  have h := places_any x.toNat 100 (by decide) (by decide) (by omega) w hT
  rw [htk, show ((x.toNat : Nat) : Int) = x from by omega] at h
  refine h.mono ?_
  rintro e w' ⟨v, rfl, hown, hnn, hb⟩
  rcases hown.2 with ⟨rfl, _⟩ | ⟨g, cap, cur, rfl, _⟩
  · exact absurd rfl hnn
  · exact ⟨g, cap, rfl, hown, hT.keep hb, hb⟩
theorem of_two_k (a b : Int) (A : Option Addr) (c : Nat) (w : World) (ha : U64 a) (hb : U64 b) (hh : Lies w w.heap.size A (pcI a + pcI b) (rowOf (places a.toNat) ++ rowOf (places b.toNat))) :
    Calls Tryd.prog 26 #[.slice A (pcI a + pcI b) c] w fun e w' => e = .returned (.int .u64 ((a.toNat ||| b.toNat : Nat) : Int)) ∧ w = w' := by
  have e : rowOf (places a.toNat) ++ rowOf (places b.toNat) = ints (intsOf (places a.toNat ++ places b.toNat)) := by rw [ints_of]; simp [rowOf]
  rw [e] at hh
  have := of_any A (pcI a + pcI b) c _ w _ (by have := pcI_le a; have := pcI_le b; unfold maxLen; omega) hh
  obtain ⟨a0, a1⟩ := ha
  obtain ⟨b0, b1⟩ := hb
  rw [of_places_two _ _ (by omega) (by omega)] at this
  exact this

theorem and_4095 (m : Int) : bits BinOp.and IntKind.i64 m 4095 = m % 4096 := by
  have := and_mask m 12 (by decide)
  rw [show (twoP 12) = 4096 from rfl] at this
  rw [← this]
  rfl
theorem rot_half (a : Int) (h : U64 a) : rotI a 32 = a % 4294967296 * 4294967296 + a / 4294967296 := by
  obtain ⟨h0, h1⟩ := h
  unfold rotI rotN
  rw [show ((32 : Int) % 64).toNat = 32 from rfl, show (2 ^ 32 : Nat) = 4294967296 from rfl,
    show a.toNat * 4294967296 % 18446744073709551616 = a.toNat % 4294967296 * 4294967296 from by omega, nat_join 32 _ _ (by omega) (by omega)]
  omega

set_option maxRecDepth 100000 in
set_option maxHeartbeats 1000000 in
theorem halves_core (a b : Int) (mi ni m n : Int) (w : World) (hT : Tab w) (ua : U64 a) (ub : U64 b) (hm0 : 0 ≤ m) (hm1 : m < 4096) (hn0 : 0 ≤ n) (hn1 : n < 4096)
    (em : bits BinOp.and IntKind.i64 mi 4095 = m) (en : bits BinOp.and IntKind.i64 ni 4095 = n) :
    Calls Tryd.prog 7 #[.int .u64 a, .int .u64 b, .int .i64 mi, .int .i64 ni] w fun e w' => e = .returned (.bool true) ∧ Keep w w' := by
  obtain ⟨i0, hi, hz0, hz1, hz2⟩ := info_parts infoInt
  obtain ⟨a0, a1⟩ := id ua
  obtain ⟨b0, b1⟩ := id ub
  have eor : bits BinOp.or IntKind.u64 a b = ((a.toNat ||| b.toNat : Nat) : Int) := u64_or a b a0 a1 b0 b1
  have eand : bits BinOp.and IntKind.u64 a b = ((a.toNat &&& b.toNat : Nat) : Int) := u64_and a b a0 a1 b0 b1
  have exor : bits BinOp.xor IntKind.u64 a b = ((a.toNat ^^^ b.toNat : Nat) : Int) := u64_xor a b a0 a1 b0 b1
  have uor : U64 ((a.toNat ||| b.toNat : Nat) : Int) := ⟨by omega, by have := Nat.or_lt_two_pow (n := 64) (x := a.toNat) (y := b.toNat) (by omega) (by omega); omega⟩
  have uand : U64 ((a.toNat &&& b.toNat : Nat) : Int) := ⟨by omega, by have := Nat.and_lt_two_pow (n := 64) a.toNat (y := b.toNat) (by omega); omega⟩
  have uxor : U64 ((a.toNat ^^^ b.toNat : Nat) : Int) := ⟨by omega, by have := Nat.xor_lt_two_pow (n := 64) (x := a.toNat) (y := b.toNat) (by omega) (by omega); omega⟩
  have ur : U64 (rotI a m) := rotI_bd a m a0 a1
  have f0 : (a % 4294967296 * 4294967296 + a / 4294967296 != rotI a 32) = false := by rw [bne_eq_false_iff_eq, rot_half a ua]
  have f1 : (lowI a 32 != a % 4294967296) = false := by rw [bne_eq_false_iff_eq]; exact lowI_nat a 32 (by decide)
  have f2 : (rotI (rotI a m) n == rotI a (m + n)) = true := by rw [beq_iff_eq]; exact rotI_rotI a m n a0 a1
  have f3 : (rotI ((a.toNat ^^^ b.toNat : Nat) : Int) m == bits BinOp.xor IntKind.u64 (rotI a m) (rotI b m)) = true := by
    rw [beq_iff_eq]
    obtain ⟨c0, c1⟩ := rotI_bd a m a0 a1
    obtain ⟨d0, d1⟩ := rotI_bd b m b0 b1
    rw [u64_xor _ _ c0 c1 d0 d1]
    unfold rotI
    rw [Int.toNat_natCast, Int.toNat_natCast, Int.toNat_natCast, rot_xor _ _ _ (by omega) (by omega) (by omega)]
  have p1 := pcI_le a
  have p2 := pcI_le b
  have p3 := pcI_le ((a.toNat &&& b.toNat : Nat) : Int)
  have p4 := pcI_le ((a.toNat ||| b.toNat : Nat) : Int)
  have f4 : ((pcI ((a.toNat &&& b.toNat : Nat) : Int) : Int) + (pcI ((a.toNat ||| b.toNat : Nat) : Int) : Int) == (pcI a : Int) + (pcI b : Int)) = true := by
    rw [beq_iff_eq]
    have := places_both a.toNat b.toNat
    unfold pcI
    rw [Int.toNat_natCast, Int.toNat_natCast]
    omega
  go_enter Tryd.func7, Tryd.ntmps7
  go_wp2_with (first
    | (go_at_call 9; refine (alive_k _ hT).mono ?_; rintro e w1 ⟨rfl, hT1, hk1⟩)
    | (go_at_call 18; refine (low_i _ _ _).mono ?_; rintro e w' ⟨rfl, rfl⟩)
    | (go_at_call 22; refine (rot_u _ _ _ (by assumption)).mono ?_; rintro e w' ⟨rfl, rfl⟩)
    | (go_at_call 28; refine (halves_i _ _ a0 a1).mono ?_; rintro e w' ⟨rfl, rfl⟩)
    | (go_at_call 15; refine (tou32_yes _ _ (by omega) (by omega)).mono ?_; rintro e w' ⟨rfl, rfl⟩)
    | (go_at_call 29; refine (join_i _ _ _ (by omega) (by omega) (by omega) (by omega)).mono ?_; rintro e w' ⟨rfl, rfl⟩))
  refine (places_r a w1 ua hT1).mono ?_
  rintro e w2 ⟨g2, c2, rfl, hr2, hT2, hk2⟩
  go_wp2_with fail
  refine (places_r b w2 ub hT2).mono ?_
  rintro e w3 ⟨g3, c3, rfl, hr3, hT3, hk3⟩
  have hr23 := ownsRow_keep hr2 hk3
  have hs2 := hk2.size
  have hs3 := hk3.size
  have hc3 := hr3.cells (g := g3) rfl
  have HC := Lib.hid hc3
  clear hc3
  go_wp2_with (at_builtin; refine wpList_append_own _ rfl _ _ 42 rfl w1.heap.size 3 i0 (.int .i64 0) 1 8 Tryd.underlying42 hi hz0 hz1 hz2 rfl (by decide) _ _ _ rfl hr23 ⟨g3, 0, none⟩ (pcI b) c3 (rowOf (places b.toNat)) rfl (by simp [rowOf, pcI]) HC.out (by simp [rowOf, Value.oneCell']) (by unfold maxLen; omega) (by omega) (by omega) ?_; intro v' w4 hown4 hgrow _)
  have hg2 := (hr2.lt g2 rfl).1
  have hgrow' : w3.grownBy w4 (some g2) := hgrow
  have hs1 := hk1.size
  have hk4 : Keep w w4 := Below.grown ((hk1.trans hk2).trans hk3) hgrow' (by omega) (fun k e => by cases e; omega)
  have hT4 := hT.keep hk4
  clear hgrow hgrow' hr2 hr23 hr3 hT1 hT2 hT3 hk1 hk2 hk3
  obtain ⟨A4, c4, hv4, hl4⟩ := Lies.of_row hown4
  rw [hv4]
  clear hv4 hown4
  refine (of_two_k a b A4 c4 w4 ua ub hl4).mono ?_
  rintro e w5 ⟨rfl, rfl⟩
  clear hl4
  go_wp2_with (first
    | (go_at_call 22; refine (rot_u _ _ _ (by assumption)).mono ?_; rintro e w' ⟨rfl, rfl⟩)
    | (go_at_call 25; refine (places_k _ _ (by assumption) (by assumption)).mono ?_; rintro e w' ⟨A, c, rfl, hh, hT', hk'⟩))
  go_ret
  exact ⟨rfl, by repeat (first | exact Keep.refl _ | assumption | refine Keep.trans ?_ (by assumption))⟩

theorem FitHalves_std (a0 : Int) (w0 : (Lit.int .u64 a0).wf = true) (a1 : Int) (w1 : (Lit.int .u64 a1).wf = true) (a2 : Int) (_w2 : (Lit.int .i64 a2).wf = true) (a3 : Int) (_w3 : (Lit.int .i64 a3).wf = true) (w : World) (hT : Tab w) :
    Calls Tryd.prog 7 #[.int .u64 a0, .int .u64 a1, .int .i64 a2, .int .i64 a3] w fun e w' => e = .returned (.bool true) ∧ Below w.heap.size w w' := by
  have h := bounds_u64 w0
  have h' := bounds_u64 w1
  exact halves_core a0 a1 a2 a3 (a2 % 4096) (a3 % 4096) w hT ⟨by omega, by omega⟩ ⟨by omega, by omega⟩ (by omega) (by omega) (by omega) (by omega) (and_4095 a2) (and_4095 a3)
end Go.Proofs.YtoilbmhijjkkaaaDoor
