/- The document's Put and Int, as bytes. -/
import Derived.Test.YtoilbmhijjkkaabOctWrite
import Derived.Test.YtoilbmhijjkkaabRefLow
namespace Go.Proofs.Ytoilbmhijjkkaab
open Go.RowKit

theorem held_8 (n : Int) : heldI n 1 8 = fsz n := by unfold heldI fsz; omega
theorem div_byte (n : Int) (j : Nat) : n / ((2 ^ (j * 8) : Nat) : Int) / 256 = n / ((2 ^ ((j + 1) * 8) : Nat) : Int) := by
  rw [Int.ediv_ediv_of_nonneg (Int.natCast_nonneg _)]
  congr 1
  rw [show (j + 1) * 8 = j * 8 + 8 from by omega, Nat.pow_add]
  omega

theorem row_nil {w : World} {base : Nat} {e : TypeId} {A : Option Addr} {n' c n : Nat} {xs : List Value} (h : w.ownsRow base e 1 (.slice A n' c) n xs) : A = none → c = 0 := by
  rintro rfl
  rcases h.2 with ⟨e, _⟩ | ⟨g, cap, cur, e, _⟩
  · injection e
  · injection e with e1; cases e1
/-- A new row of one. -/
theorem row_one (w : World) (base : Nat) (e : TypeId) (v : Value) (hb : base ≤ w.heap.size) : (w.alloc (.cells #[v] e)).ownsRow base e 1 (.slice (some ⟨w.heap.size, 0, none⟩) 1 1) 1 [v] :=
  ⟨rfl, .inr ⟨w.heap.size, 1, #[v], rfl, hb, heap_alloc_new w _, Nat.le_refl _, by unfold maxLen; omega, rfl, rfl⟩⟩

set_option maxRecDepth 100000 in
set_option maxHeartbeats 1000000 in
theorem rput_any (n size : Int) (w : World) (h0 : 0 ≤ n) (h1 : n < 18446744073709551616) :
    Calls Try.prog 12 #[.int .u64 n, .int .i64 size] w fun e w' => ∃ v, e = .returned v ∧ w'.ownsRow w.heap.size 5 1 v (fsz size).toNat (vals .u8 (putB n (fsz size).toNat)) ∧ Keep w w' := by
  obtain ⟨i0, hi, hz0, hz1, hz2⟩ := info_parts infoU8
  obtain ⟨f1, f2⟩ := fsz_bd size
  obtain ⟨K, hK⟩ := Int.eq_ofNat_of_zero_le (show 0 ≤ fsz size by omega)
  have hh := (held_8 size).trans hK
  rw [hK, Int.toNat_natCast]
  have hK8 : K ≤ 8 := by omega
  clear f1 f2 hK
  have HH := Lib.hid hh
  clear hh
  go_enter Try.func12, Try.ntmps12
  go_wp2_with fail
  go_loopw [0, 5, 6] (fun x v i wr => ∃ (j : Nat) (t : Int), j ≤ K ∧ i = .int .i64 j ∧ x = .int .u64 t ∧ Hid (t = n / ((2 ^ (j * 8) : Nat) : Int)) ∧ wr.ownsRow w.heap.size 5 1 v j (vals .u8 (putB n j)) ∧ Keep w wr) (fun _ _ i _ => K - (intOf i).toNat)
  case atStart => exact ⟨0, n, Nat.zero_le _, rfl, rfl, Lib.hid (by simp), World.ownsRow_made w #[] 0 (Nat.le_refl _) (Nat.zero_le _) rfl, (Keep.refl w).alloc _⟩
  case round =>
    obtain ⟨j, t, hj, rfl, rfl, ht, hrow, hk⟩ := hrel
    obtain ⟨Av, cv, rfl, hlv⟩ := Lies.of_row hrow
    have ht0 : 0 ≤ t := by rw [ht.out]; exact Int.ediv_nonneg h0 (Int.natCast_nonneg _)
    have ht1 : t < 18446744073709551616 := by
      rw [ht.out]
      have := Int.ediv_le_self ((2 ^ (j * 8) : Nat) : Int) h0
      omega
    have hnn := row_nil hrow
    have hs := hk.size
    by_cases hlt : j < K
    · have hlv1 := hlv.below (((Below.refl _ wr).alloc (Nat.le_refl _) (.cells #[.int .u8 (t % 256)] 5)))
      have hlv2 := hlv1.more (Nat.le_succ _)
      have HL := Lib.hid hlv2
      have HN := Lib.hid hnn
      have hk1 := hk.alloc (.cells #[.int .u8 (t % 256)] 5)
      have HX := Lib.hid (show [.int .u8 (t % 256)] ++ vals .u8 (putB n j) = vals .u8 (putB n (j + 1)) by rw [putB, ← ht.out]; rfl)
      have hdv := Lib.hid (show t / 256 = n / ((2 ^ ((j + 1) * 8) : Nat) : Int) by rw [ht.out, div_byte])
      clear hlv hlv1 hlv2 hnn hrow
      go_wp2_with (first
        | (go_at_call 30; refine (held_any _ _ _ _).mono ?_; rintro e w' ⟨rfl, rfl⟩; rw [HH.out])
        | (at_builtin; refine wpList_append_from rfl _ _ 25 rfl w.heap.size 5 i0 (.int .u8 0) 1 Try.underlying25 hi hz0 hz1 hz2 rfl _ 1 [.int .u8 (t % 256)] rfl (row_one wr _ _ _ hs) _ Av j cv (vals .u8 (putB n j)) rfl HL.out HN.out (vals_one _ _) (by unfold maxLen; omega) (by omega) (by simp; omega) ?_; intro A3 c3 w3 hown3 hgrow hat))
      rw [HX.out] at hown3
      have hk3 : Keep w w3 := Only.keep hk1 ((Only.refl (fun k => wr.heap.size ≤ k) _).grown hgrow (fun k _ e => Nat.le_of_eq (Option.some.inj e))) (fun k h => by omega)
      go_roundw
      case rel => exact ⟨j + 1, _, hlt, by go_num, rfl, hdv, by rw [Nat.add_comm] at hown3 ⊢; exact hown3, hk3⟩
      case measure => simp [intOf]; omega
    · obtain rfl : j = K := by omega
      go_wp2_with (go_at_call 30; refine (held_any _ _ _ _).mono ?_; rintro e w' ⟨rfl, rfl⟩; rw [HH.out])
      go_ret
      exact ⟨_, rfl, hrow, hk⟩

theorem rpint_any (n size : Int) (w : World) :
    Calls Try.prog 14 #[.int .i64 n, .int .i64 size] w fun e w' => ∃ v, e = .returned v ∧ w'.ownsRow w.heap.size 5 1 v (fsz size).toNat (vals .u8 (putB n (fsz size).toNat)) ∧ Keep w w' := by
  have hK : (fsz size).toNat ≤ 8 := by have := fsz_bd size; omega
  have HC := Lib.hid (rput_any (IntKind.u64.wrap n) size w (by rw [IntKind.wrap_u64]; omega) (by rw [IntKind.wrap_u64]; omega))
  rw [putB_wrap n _ hK] at HC
  clear hK
  go_enter Try.func14, Try.ntmps14
  go_wp2_with (go_at_call 12; refine HC.out.mono ?_; rintro e w' ⟨v, rfl, h1, h2⟩)
  go_ret
  exact ⟨v, rfl, h1, h2⟩
end Go.Proofs.Ytoilbmhijjkkaab
