/- The document's own Wrap: its Put of two bytes, its Join of two rows. -/
import Derived.Test.YtjhakgnjodocpaaFrmMath
namespace Go.Proofs.Ytjhakgnjodocpaa
open Go.RowKit

def heldI (n lo hi : Int) : Int := max (min n hi) lo
theorem held_any (n lo hi : Int) (w : World) :
    Calls Try.prog 34 #[.int .i64 n, .int .i64 lo, .int .i64 hi] w fun e w' => e = .returned (.int .i64 (heldI n lo hi)) ∧ w = w' := by
  unfold heldI
  go_enter Try.func34, Try.ntmps34
  go_wp2
  all_goals
    go_ret
    exact ⟨ret_int (by omega), rfl⟩
theorem held_8 (n : Int) : heldI n 1 8 = fsz n := by unfold heldI fsz; omega
theorem div_byte (n : Int) (j : Nat) : n / ((2 ^ (j * 8) : Nat) : Int) / 256 = n / ((2 ^ ((j + 1) * 8) : Nat) : Int) := by
  rw [Int.ediv_ediv_of_nonneg (Int.natCast_nonneg _)]
  congr 1
  rw [show (j + 1) * 8 = j * 8 + 8 from by omega, Nat.pow_add]
  omega
/-- A new row of one. -/
theorem row_one (w : World) (base : Nat) (e : TypeId) (v : Value) (hb : base ≤ w.heap.size) : (w.alloc (.cells #[v] e)).ownsRow base e 1 (.slice (some ⟨w.heap.size, 0, none⟩) 1 1) 1 [v] :=
  ⟨rfl, .inr ⟨w.heap.size, 1, #[v], rfl, hb, heap_alloc_new w _, Nat.le_refl _, by unfold maxLen; omega, rfl, rfl⟩⟩

set_option maxRecDepth 100000 in
set_option maxHeartbeats 1000000 in
theorem rput_any (n size : Int) (w : World) (h0 : 0 ≤ n) (h1 : n < 18446744073709551616) :
    Calls Try.prog 28 #[.int .u64 n, .int .i64 size] w fun e w' => ∃ v, e = .returned v ∧ w'.ownsRow w.heap.size 5 1 v (fsz size).toNat (vals .u8 (putB n (fsz size).toNat)) ∧ Keep w w' := by
  obtain ⟨i0, hi, hz0, hz1, hz2⟩ := info_parts infoU8
  obtain ⟨f1, f2⟩ := fsz_bd size
  obtain ⟨K, hK⟩ := Int.eq_ofNat_of_zero_le (show 0 ≤ fsz size by omega)
  have hh := (held_8 size).trans hK
  rw [hK, Int.toNat_natCast]
  have hK8 : K ≤ 8 := by omega
  clear f1 f2 hK
  have HH := Lib.hid hh
  clear hh
  go_enter Try.func28, Try.ntmps28
  go_wp2_with fail
  go_loopw [0, 5, 6] (fun x v i wr => ∃ (j : Nat) (t : Int), j ≤ K ∧ i = .int .i64 j ∧ x = .int .u64 t ∧ Hid (t = n / ((2 ^ (j * 8) : Nat) : Int)) ∧ wr.ownsRow w.heap.size 5 1 v j (vals .u8 (putB n j)) ∧ Keep w wr) (fun _ _ i _ => K - (intOf i).toNat)
  case atStart => exact ⟨0, n, Nat.zero_le _, rfl, rfl, Lib.hid (by simp), World.ownsRow_made w #[] 0 (Nat.le_refl _) (Nat.zero_le _) rfl, (Keep.refl w).alloc _⟩
  case round =>
    obtain ⟨j, t, hj, rfl, rfl, ht, hrow, hk⟩ := hrel
    obtain ⟨Av, cv, rfl, hlv⟩ := Lies.of_row hrow
    have ht0 : 0 ≤ t := by rw [ht.out]; exact Int.ediv_nonneg h0 (Int.natCast_nonneg _)
    have ht1 : t < 18446744073709551616 := by
      rw [ht.out]
      have := Int.ediv_le_self ((2 ^ (j * 8) : Nat) : Int) h0
      omega
    have hnn := row_nil hrow
    have hs := hk.size
    by_cases hlt : j < K
    · have hlv1 := hlv.below (((Below.refl _ wr).alloc (Nat.le_refl _) (.cells #[.int .u8 (t % 256)] 5)))
      have hlv2 := hlv1.more (Nat.le_succ _)
      have HL := Lib.hid hlv2
      have HN := Lib.hid hnn
      have hk1 := hk.alloc (.cells #[.int .u8 (t % 256)] 5)
      have HX := Lib.hid (show [.int .u8 (t % 256)] ++ vals .u8 (putB n j) = vals .u8 (putB n (j + 1)) by rw [putB, ← ht.out]; rfl)
      have hdv := Lib.hid (show t / 256 = n / ((2 ^ ((j + 1) * 8) : Nat) : Int) by rw [ht.out, div_byte])
      clear hlv hlv1 hlv2 hnn hrow
      go_wp2_with (first
        | (go_at_call 34; refine (held_any _ _ _ _).mono ?_; rintro e w' ⟨rfl, rfl⟩; rw [HH.out])
        | (at_builtin; refine wpList_append_from rfl _ _ 22 rfl w.heap.size 5 i0 (.int .u8 0) 1 Try.underlying22 hi hz0 hz1 hz2 rfl _ 1 [.int .u8 (t % 256)] rfl (row_one wr _ _ _ hs) _ Av j cv (vals .u8 (putB n j)) rfl HL.out HN.out (vals_one _ _) (by unfold maxLen; omega) (by omega) (by simp; omega) ?_; intro A3 c3 w3 hown3 hgrow hat))
      rw [HX.out] at hown3
      have hk3 : Keep w w3 := Only.keep hk1 ((Only.refl (fun k => wr.heap.size ≤ k) _).grown hgrow (fun k _ e => Nat.le_of_eq (Option.some.inj e))) (fun k h => by omega)
      go_roundw
      case rel => exact ⟨j + 1, _, hlt, by go_num, rfl, hdv, by rw [Nat.add_comm] at hown3 ⊢; exact hown3, hk3⟩
      case measure => simp [intOf]; omega
    · obtain rfl : j = K := by omega
      go_wp2_with (go_at_call 34; refine (held_any _ _ _ _).mono ?_; rintro e w' ⟨rfl, rfl⟩; rw [HH.out])
      go_ret
      exact ⟨_, rfl, hrow, hk⟩

theorem By.more {w : World} {B B' : Nat} {A : Option Addr} {n c : Nat} {xs : List Int} (h : By w B A n c xs) (hB : B ≤ B') : By w B' A n c xs := ⟨h.lies.more hB, h.cap, h.nil⟩
set_option maxRecDepth 100000 in
set_option maxHeartbeats 1000000 in
theorem join_two (g : Nat) (A : Option Addr) (n c : Nat) (xs : List Int) (A2 : Option Addr) (m c2 : Nat) (ys : List Int) (w : World) (B : Nat) (hB : B ≤ w.heap.size) (hg : w.heap[g]? = some (.cells #[.slice A n c, .slice A2 m c2] 22 (0, 0))) (hy : By w B A n c xs) (hz : By w B A2 m c2 ys) (hn : n ≤ 1099511627776) (hm : m ≤ 1099511627776) :
    Calls Try.prog 19 #[.slice (some ⟨g, 0, none⟩) 2 2] w fun e w' => ∃ v, e = .returned v ∧ w'.ownsRow w.heap.size 5 1 v (n + m) (vals .u8 (xs ++ ys)) ∧ Keep w w' := by
  obtain ⟨i0, hi, hz0, hz1, hz2⟩ := info_parts infoU8
  have hgl : g < w.heap.size := (Array.getElem?_eq_some_iff.1 hg).1
  have HG := Lib.hid hg
  have HL := Lib.hid hy
  have HM := Lib.hid hz
  clear hg hy hz
  go_enter Try.func19, Try.ntmps19
  go_wp2_with fail
  go_loopw [3, 4] (fun v i wr => (i = .int .i64 0 ∧ wr.ownsRow w.heap.size 5 1 v 0 [] ∨ i = .int .i64 1 ∧ wr.ownsRow w.heap.size 5 1 v n (vals .u8 xs) ∨ i = .int .i64 2 ∧ wr.ownsRow w.heap.size 5 1 v (n + m) (vals .u8 (xs ++ ys))) ∧ Keep w wr) (fun _ i _ => 2 - (intOf i).toNat)
  case atStart => exact ⟨.inl ⟨rfl, World.ownsRow_made (base := w.heap.size) (e := 5) (size := 1) w #[] 0 (Nat.le_refl _) (Nat.zero_le _) rfl⟩, (Keep.refl w).alloc _⟩
  case round =>
    obtain ⟨hj, hk⟩ := hrel
    have hs := hk.size
    have hc : wr.cell? ⟨g, 0, none⟩ = some (.slice A n c) := by
      have := (hk.block g hgl).trans HG.out
      simp [World.cell?, this]
    have hc2 : wr.cell? ⟨g, 1, none⟩ = some (.slice A2 m c2) := by
      have := (hk.block g hgl).trans HG.out
      simp [World.cell?, this]
    have HLw := Lib.hid (HL.out.keep hk hB)
    have HMw := Lib.hid (HM.out.keep hk hB)
    rcases hj with ⟨rfl, hrow⟩ | ⟨rfl, hrow⟩ | ⟨rfl, hrow⟩
    · obtain ⟨Av, cv, rfl, -⟩ := Lies.of_row hrow
      have HR := Lib.hid hrow
      clear hrow
      go_wp2_with (at_builtin; refine wpList_append_from rfl _ _ 22 rfl w.heap.size 5 i0 (.int .u8 0) 1 Try.underlying22 hi hz0 hz1 hz2 rfl _ 0 [] rfl HR.out B A n c (vals .u8 xs) rfl HLw.out.lies HLw.out.nil (vals_one _ _) (by unfold maxLen; omega) (by omega) hs ?_; intro A3 c3 w3 hown3 hgrow hat)
      have hk3 : Keep w w3 := Only.keep hk ((Only.refl (fun k => (Value.slice Av 0 cv).ownBlock = some k) _).grown hgrow (fun k _ e => e)) (fun k e => (HR.out.lt k e).1)
      rw [Nat.zero_add, List.nil_append] at hown3
      go_roundw
      case rel => exact ⟨.inr (.inl ⟨by go_num, by simpa using hown3⟩), hk3⟩
      case measure => simp [intOf]
    · obtain ⟨Av, cv, rfl, -⟩ := Lies.of_row hrow
      have HR := Lib.hid hrow
      clear hrow
      go_wp2_with (at_builtin; refine wpList_append_from rfl _ _ 22 rfl w.heap.size 5 i0 (.int .u8 0) 1 Try.underlying22 hi hz0 hz1 hz2 rfl _ n (vals .u8 xs) rfl HR.out B A2 m c2 (vals .u8 ys) rfl HMw.out.lies HMw.out.nil (vals_one _ _) (by unfold maxLen; omega) (by omega) hs ?_; intro A3 c3 w3 hown3 hgrow hat)
      have hk3 : Keep w w3 := Only.keep hk ((Only.refl (fun k => (Value.slice Av n cv).ownBlock = some k) _).grown hgrow (fun k _ e => e)) (fun k e => (HR.out.lt k e).1)
      rw [← vals_append] at hown3
      go_roundw
      case rel => exact ⟨.inr (.inr ⟨by go_num, hown3⟩), hk3⟩
      case measure => simp [intOf]
    · go_wp2
      go_ret
      exact ⟨_, rfl, hrow, hk⟩

theorem rwrap_no (A : Option Addr) (n c : Nat) (w : World) (h : 1024 < n) (hn : n ≤ 1099511627776) :
    Calls Try.prog 18 #[.slice A n c] w (WrapNo w) := by
  go_enter Try.func18, Try.ntmps18
  go_wp2
  exact bodyPost_ret (v := .tuple #[.slice none 0 0, .int .i64 2]) (by simp [results, Try.results18, go_sem]) rfl ⟨rfl, Keep.refl _⟩
set_option maxHeartbeats 1000000 in
theorem rwrap_yes (A : Option Addr) (n c : Nat) (xs : List Int) (w : World) (B : Nat) (hB : B ≤ w.heap.size) (hy : By w B A n c xs) (h : n ≤ 1024) :
    Calls Try.prog 18 #[.slice A n c] w (WrapYes w xs) := by
  have HX := Lib.hid hy.len
  have HY := Lib.hid hy
  clear hy
  go_enter Try.func18, Try.ntmps18
  go_wp2_with fail
  refine (rput_any (n : Int) 2 w (by omega) (by omega)).mono ?_
  rintro e w1 ⟨v1, rfl, hr1, hk1⟩
  rw [show (fsz 2).toNat = 2 from rfl] at hr1
  obtain ⟨A1, c1, rfl, hy1⟩ := By.of_row hr1
  have HY1 := Lib.hid hy1
  have HY2 := Lib.hid (HY.out.keep hk1 hB)
  have hs1 := hk1.size
  clear hy1 hr1
  have hka : Keep w1 (w1.alloc (.cells #[.slice A1 2 c1, .slice A n c] 22)) := (Keep.refl w1).alloc _
  have J := Lib.hid (join_two w1.heap.size A1 2 c1 _ A n c xs (w1.alloc (.cells #[.slice A1 2 c1, .slice A n c] 22)) w1.heap.size (by simp) (World.alloc_heap_new _ _) (HY1.out.keep hka (Nat.le_refl _)) ((HY2.out.keep hka (Nat.le_trans hB hs1)).more (Nat.le_trans hB hs1)) (by omega) (by omega))
  go_wp2_with fail
  refine J.out.mono ?_
  rintro e w3 ⟨v3, rfl, hr3, hk3⟩
  have hr3' := ownsRow_le hr3 (base' := w.heap.size) (by simp; omega)
  have hk := (hk1.trans hka).trans hk3
  have HR := Lib.hid hr3'
  clear hr3 hr3' J HY1 HY2
  go_wp2
  refine bodyPost_ret (v := .tuple #[v3, .int .i64 0]) (by simp [results, Try.results18, go_sem]) rfl ⟨v3, rfl, ?_, hk⟩
  rw [frm_length, HX.out]
  unfold frm
  rw [HX.out]
  exact HR.out
end Go.Proofs.Ytjhakgnjodocpaa
