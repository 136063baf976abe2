/- octet's Writer: what each call does to its bytes. -/
import Derived.Test.YtjhakgnjodocpaaProg
import Derived.Test.YtjhakgnjodocpaaMem
import Derived.Deep.RegionLaw
import Derived.Deep.RegionHeld3
import Derived.StillTailTactics
namespace Go.Proofs.Ytjhakgnjodocpaa
open Go.RowKit

theorem infoU8 : (Try.prog.info? 5).map (fun i => (i.zero, i.size, i.bytes)) = some (some (.int .u8 0), 1, 1) := by kernel_rfl

set_option maxHeartbeats 400000 in
theorem clone_nil (n c : Nat) (w : World) :
    Calls Try.prog 21 #[.slice none n c] w fun e w' => e = .returned (.slice none 0 0) ∧ w = w' := by
  have q : ∀ (w : World) (a : Option Addr) (n c n' c' : Nat), (binOp .eql 22 (.slice a n c) (.slice none n' c')).run Try.prog w = .ok (.bool a.isNone) w := fun w a n c n' c' => Lib.run_eql_slice_nil w _ _ a n c n' c' Try.underlying22
  go_enter Try.func21, Try.ntmps21
  go_wp2
  go_ret
  exact ⟨rfl, rfl⟩

set_option maxHeartbeats 400000 in
theorem clone_some (ad : Addr) (n c : Nat) (zs : List Int) (w : World) (B : Nat) (hn : n ≤ 140737488355328) (hB : B ≤ w.heap.size) (hl : Lies w B (some ad) n (vals .u8 zs)) :
    Calls Try.prog 21 #[.slice (some ad) n c] w fun e w' => ∃ v', e = .returned v' ∧ w'.ownsRow w.heap.size 5 1 v' n (vals .u8 zs) ∧ Keep w w' := by
  have q : ∀ (w : World) (a : Option Addr) (n c n' c' : Nat), (binOp .eql 22 (.slice a n c) (.slice none n' c')).run Try.prog w = .ok (.bool a.isNone) w := fun w a n c n' c' => Lib.run_eql_slice_nil w _ _ a n c n' c' Try.underlying22
  obtain ⟨i0, hi, hz0, hz1, hz2⟩ := info_parts infoU8
  have hnews : ∀ j u, (vals .u8 zs)[j]? = some u → (w.alloc (.cells #[] 5)).cell? (ad.add j) = some u := by
    intro j u hu
    have hj : j < n := by have := (List.getElem?_eq_some_iff.1 hu).1; have := hl.1; omega
    obtain ⟨b, off, e, hb, hc⟩ := hl.2 (by omega)
    cases e
    have h1 := (hl.below (((Below.refl _ w).alloc (Nat.le_refl _) (.cells #[] 5)).mono hB)).news j u hu
    exact h1
  have HN := Lib.hid hnews
  have HL := Lib.hid hl.1
  clear hnews hl
  go_enter Try.func21, Try.ntmps21
  go_wp2_with (at_builtin; refine wpList_append_own _ rfl _ _ 22 rfl w.heap.size 5 i0 (.int .u8 0) 1 1 Try.underlying22 hi hz0 hz1 hz2 rfl (by decide) _ _ _ rfl (World.ownsRow_made w #[] 0 (Nat.le_refl _) (Nat.zero_le _) rfl) ad n c (vals .u8 zs) rfl ?qc1 HN.out (vals_one _ _) ?qc4 ?qc5 ?qc6 ?_)
  case qc1 => rw [HL.out]; omega
  case qc4 => unfold maxLen; omega
  case qc5 => omega
  case qc6 => simp
  intro v' w1 hown hgrow hnil
  go_wp2
  go_ret
  exact ⟨v', rfl, by simpa using hown, ((Below.refl _ w).alloc (Nat.le_refl _) _).grown hgrow (by simp) (by intro k hk; simp [Value.ownBlock] at hk; omega)⟩

/-- bytes.Clone of whatever slice. -/
theorem clone_any (A : Option Addr) (n c : Nat) (zs : List Int) (w : World) (B : Nat) (hn : n ≤ 140737488355328) (hB : B ≤ w.heap.size) (hl : Lies w B A n (vals .u8 zs)) :
    Calls Try.prog 21 #[.slice A n c] w fun e w' => ∃ v', e = .returned v' ∧ w'.ownsRow w.heap.size 5 1 v' n (vals .u8 zs) ∧ Keep w w' := by
  rcases A with _ | ad
  · refine (clone_nil n c w).mono ?_
    rintro e w' ⟨rfl, rfl⟩
    have h0 : n = 0 := by
      apply Nat.eq_zero_of_not_pos
      intro hp
      obtain ⟨_, _, e, _⟩ := hl.2 hp
      cases e
    subst h0
    have : vals .u8 zs = [] := List.eq_nil_of_length_eq_zero hl.1
    rw [this]
    exact ⟨_, rfl, World.ownsRow_nil _ _ _ _, Keep.refl _⟩
  · exact clone_some ad n c zs w B hn hB hl

def fsz (n : Int) : Int := min (max n 1) 8
theorem fsz_bd (n : Int) : 1 ≤ fsz n ∧ fsz n ≤ 8 := by unfold fsz; omega
theorem fsize_any (n : Int) (w : World) :
    Calls Try.prog 33 #[.int .i64 n] w fun e w' => e = .returned (.int .i64 (fsz n)) ∧ w = w' := by
  unfold fsz
  go_enter Try.func33, Try.ntmps33
  go_wp2
  all_goals
    go_ret
    exact ⟨ret_int (by omega), rfl⟩

/-- A writer in block b: its slice v owns the bytes xs. -/
def Wr (w : World) (b : Nat) (v : Value) (xs : List Int) : Prop := Boxed w b 53 v ∧ w.ownsRow (b + 1) 5 1 v xs.length (vals .u8 xs)
/-- What a writer may turn: its own block, and its bytes' one. -/
def OfWr (b : Nat) (v : Value) (k : Nat) : Prop := k = b ∨ v.ownBlock = some k
/-- Where the bytes lie behind a call: where they lay, or in a block made since. -/
def Moved (w : World) (v v' : Value) : Prop := v'.ownBlock = v.ownBlock ∨ ∃ g, v'.ownBlock = some g ∧ w.heap.size ≤ g

theorem wr_grown {w wr wi w1 : World} {b : Nat} {v u : Value} {ys zs : List Int} {A' : Option Addr} {c' : Nat} (hbx : Boxed wr b 53 u) (hrow : wr.ownsRow (b + 1) 5 1 u ys.length (vals .u8 ys)) (ho : Only (OfWr b v) w wr) (hmv : Moved w v u)
    (hk : Keep wr wi) (hown : w1.ownsRow (b + 1) 5 1 (.slice A' (ys ++ zs).length c') (ys ++ zs).length (vals .u8 (ys ++ zs))) (hgrow : wi.grownBy w1 u.ownBlock) (hat : Moved wr u (.slice A' (ys ++ zs).length c')) :
    Wr (w1.setCell ⟨b, 0, none⟩ (.slice A' (ys ++ zs).length c')) b (.slice A' (ys ++ zs).length c') (ys ++ zs) ∧
      Only (OfWr b v) w (w1.setCell ⟨b, 0, none⟩ (.slice A' (ys ++ zs).length c')) ∧ Moved w v (.slice A' (ys ++ zs).length c') := by
  have hne := hbx.not_row (by decide) hrow
  have hb1 : Boxed w1 b 53 u := (hgrow.block b (Nat.lt_of_lt_of_le hbx.lt hk.size) hne).trans ((hk.block b hbx.lt).trans hbx)
  refine ⟨⟨hb1.set _, hown.kept (grownBy_setCell' w1 b _) (.inr ?_)⟩, ?_, ?_⟩
  · intro e
    have := (hown.lt b e).1
    omega
  · refine ((ho.trans (Only.of_keep (fun _ => False) hk) (fun _ _ h => h.elim)).grown hgrow (fun k hk' e => ?_)).setCell _ _ (.inl rfl)
    rcases hmv with h | ⟨g, h, hg⟩
    · exact .inr (by rw [← h]; exact e)
    · rw [h] at e
      have : g = k := Option.some.inj e
      omega
  · rcases hat with h | ⟨gg, hgg, h⟩
    · rcases hmv with h' | ⟨g, h', hg⟩
      · exact .inl (h.trans h')
      · exact .inr ⟨g, h.trans h', hg⟩
    · exact .inr ⟨gg, hgg, Nat.le_trans ho.size h⟩

/-- The lowest k bytes of a number, the highest one first. -/
def putB (n : Int) : Nat → List Int
  | 0 => []
  | k + 1 => (n / ((2 ^ (k * 8) : Nat) : Int)) % 256 :: putB n k
theorem putB_length (n : Int) : ∀ k, (putB n k).length = k
  | 0 => rfl
  | k + 1 => by simp [putB, putB_length n k]
/-- What is put when k bytes are still to come. -/
def putTo (n : Int) (K k : Nat) : List Int := (putB n K).take (K - k)
theorem putB_drop (n : Int) : ∀ K k, k ≤ K → (putB n K).drop (K - k) = putB n k
  | 0, k, h => by obtain rfl : k = 0 := by omega
                  rfl
  | K + 1, k, h => by
    rcases Nat.lt_or_ge K k with hk | hk
    · obtain rfl : k = K + 1 := by omega
      simp
    · rw [show K + 1 - k = (K - k) + 1 from by omega]
      exact putB_drop n K k hk
theorem putTo_all (n : Int) (K : Nat) : putTo n K 0 = putB n K := by
  unfold putTo
  rw [List.take_of_length_le (by rw [putB_length]; omega)]
theorem putTo_none (n : Int) (K : Nat) : putTo n K K = [] := by simp [putTo]
theorem putTo_step (n : Int) (K k : Nat) (h : k + 1 ≤ K) : putTo n K k = putTo n K (k + 1) ++ [(n / ((2 ^ (k * 8) : Nat) : Int)) % 256] := by
  have hd := putB_drop n K (k + 1) h
  unfold putTo
  have hl := putB_length n K
  have hlt : K - (k + 1) < (putB n K).length := by omega
  rw [show K - k = K - (k + 1) + 1 from by omega, List.take_succ_eq_append_getElem hlt]
  congr 2
  have h0 : ((putB n K).drop (K - (k + 1)))[0]? = some ((n / ((2 ^ (k * 8) : Nat) : Int)) % 256) := by rw [hd]; rfl
  rw [List.getElem?_drop, Nat.add_zero, List.getElem?_eq_getElem hlt] at h0
  exact Option.some.inj h0
theorem putTo_length (n : Int) (K k : Nat) (h : k ≤ K) : (putTo n K k).length = K - k := by
  unfold putTo
  rw [List.length_take, putB_length]
  omega

set_option maxRecDepth 100000 in
set_option maxHeartbeats 1000000 in
theorem put_any (n : Int) (size : Int) (b : Nat) (v : Value) (xs : List Int) (w : World) (hw : Wr w b v xs) (hx : xs.length ≤ 1099511627776) :
    Calls Try.prog 25 #[.pointer (some ⟨b, 0, none⟩), .int .u64 n, .int .i64 size] w fun e w' => e = .returned (.tuple #[]) ∧ ∃ v', Wr w' b v' (xs ++ putB n (fsz size).toNat) ∧ Only (OfWr b v) w w' ∧ Moved w v v' := by
  obtain ⟨i0, hi, hz0, hz1, hz2⟩ := info_parts infoU8
  obtain ⟨hf1, hf2⟩ := fsz_bd size
  obtain ⟨K, hK⟩ := Int.eq_ofNat_of_zero_le (show 0 ≤ fsz size by omega)
  rw [hK, Int.toNat_natCast]
  have hK1 : 1 ≤ K := by omega
  have hK8 : K ≤ 8 := by omega
  clear hf1 hf2
  have HP := Lib.hid (putTo_all n K)
  rw [← putTo_all n K]
  clear HP
  go_enter Try.func25, Try.ntmps25
  go_wp2_with (go_at_call 33; refine (fsize_any _ _).mono ?_; rintro e w' ⟨rfl, rfl⟩)
  go_loopw [6] (fun i wr => ∃ (j : Nat) (t : Int) (u : Value), j ≤ K ∧ i = .int .i64 t ∧ t = (j : Int) - 1 ∧ Wr wr b u (xs ++ putTo n K j) ∧ Only (OfWr b v) w wr ∧ Moved w v u) (fun i _ => (intOf i + 1).toNat)
  case atStart => exact ⟨K, _, v, Nat.le_refl _, rfl, rfl, by rw [putTo_none, List.append_nil]; exact hw, Only.refl _ _, .inl rfl⟩
  case round =>
    obtain ⟨j, t, u, hj, rfl, ht, ⟨hbx, hrow⟩, ho, hmv⟩ := hrel
    rcases j with _ | m
    · obtain rfl : t = -1 := by omega
      clear ht
      go_wp2
      go_end0
      exact ⟨rfl, u, ⟨hbx, hrow⟩, ho, hmv⟩
    · obtain rfl : t = (m : Int) := by omega
      clear ht
      have hcell := hbx.cell
      have hfr := hbx.frozen
      have HS := Lib.hid (putTo_step n K m hj)
      have HD := Lib.hid (show IntKind.u8.wrap (n / 2 ^ ((m : Int) * 8).toNat) = n / ((2 ^ (m * 8) : Nat) : Int) % 256 by
        rw [IntKind.wrap_u8', show ((m : Int) * 8).toNat = m * 8 from by omega]; simp)
      have hlen : (xs ++ putTo n K (m + 1)).length ≤ 1099511627784 := by
        have := putTo_length n K (m + 1) hj
        simp; omega
      have HY := Lib.hid (show xs ++ putTo n K m = (xs ++ putTo n K (m + 1)) ++ [n / ((2 ^ (m * 8) : Nat) : Int) % 256] by rw [HS.out]; simp)
      clear HS
      have hnr := hbx.not_row (by decide) hrow
      have HNR := Lib.hid hnr
      have hbl := hbx.lt
      clear hnr
      generalize xs ++ putTo n K (m + 1) = ys at *
      have e1 : IntKind.i64.wrap ((m : Int) * 8) = (m : Int) * 8 := by rw [IntKind.wrap_i64]; omega
      have e2 : (0 : Int) ≤ (m : Int) * 8 := by omega
      have e3 : (m : Int) * 8 ≤ 64 := by omega
      go_wp2_with fail
      go_region_law ((refine step_append_lies _ (by rfl) _ _ _ (by rfl) (b + 1) 5 i0 _ 1 1 Try.underlying22 hi hz0 hz1 hz2 rfl (by omega) u _ _ (by rfl) ((hrow.alloc _).drew) ⟨wr.heap.size, 0, none⟩ 1 1 [.int .u8 (IntKind.u8.wrap (n / 2 ^ ((m : Int) * 8).toNat))] (by rfl) (by rfl) (World.news_of_block (cs := #[.int .u8 (IntKind.u8.wrap (n / 2 ^ ((m : Int) * 8).toNat))]) (t := 5) (fr := (0, 0)) (heap_alloc_new wr _)) (by simp [Value.oneCell']) (by omega) (by unfold maxLen; omega) (by omega) (by simp; omega) (wr.heap.size + 1) (by simp) ?_; intro gg cap w1 hown1 hgrow hat hlt; have hb1 : Boxed w1 b 53 u := (hgrow.block b (by simp; omega) HNR.out).trans (hbx.alloc (.cells #[.int .u8 (IntKind.u8.wrap (n / 2 ^ ((m : Int) * 8).toNat))] 5)); have hc1 := hb1.cell; have hf1 := hb1.frozen))
      all_goals go_wp2
      all_goals
        have hk1 : Keep wr ((wr.alloc (.cells #[.int .u8 (IntKind.u8.wrap (n / 2 ^ ((m : Int) * 8).toNat))] 5)).drew) := ((Keep.refl wr).alloc _).drew
        have hown2 : w1.ownsRow (b + 1) 5 1 (.slice (some ⟨gg, 0, none⟩) (ys ++ [n / ((2 ^ (m * 8) : Nat) : Int) % 256]).length cap) (ys ++ [n / ((2 ^ (m * 8) : Nat) : Int) % 256]).length (vals .u8 (ys ++ [n / ((2 ^ (m * 8) : Nat) : Int) % 256])) := by
          rw [vals_append, List.length_append]
          rw [HD.out] at hown1
          exact hown1
        have hfin := wr_grown hbx hrow ho hmv hk1 hown2 hgrow (by rcases hat with h | h; exact .inl h.symm; exact .inr ⟨gg, rfl, by omega⟩)
        rw [List.length_append] at hfin
        go_roundw
        case rel => exact ⟨m, _, _, by omega, rfl, rfl, by rw [HY.out]; exact hfin.1, hfin.2.1, hfin.2.2⟩
        case measure => simp [intOf]

theorem putB_wrap (n : Int) : ∀ K, K ≤ 8 → putB (IntKind.u64.wrap n) K = putB n K
  | 0, _ => rfl
  | K + 1, h => by
    unfold putB
    rw [putB_wrap n K (by omega), IntKind.wrap_u64]
    congr 1
    have hK : K = 0 ∨ K = 1 ∨ K = 2 ∨ K = 3 ∨ K = 4 ∨ K = 5 ∨ K = 6 ∨ K = 7 := by omega
    rcases hK with rfl | rfl | rfl | rfl | rfl | rfl | rfl | rfl <;> simp <;> omega


set_option maxRecDepth 100000 in
set_option maxHeartbeats 1000000 in
theorem wraw_any (A : Option Addr) (m c : Nat) (zs : List Int) (B : Nat) (b : Nat) (v : Value) (xs : List Int) (w : World) (hw : Wr w b v xs) (hx : xs.length ≤ 1099511627776) (hm : m ≤ 1099511627776) (hl : Lies w B A m (vals .u8 zs)) (hnil : A = none → c = 0) :
    Calls Try.prog 26 #[.pointer (some ⟨b, 0, none⟩), .slice A m c] w fun e w' => e = .returned (.tuple #[]) ∧ ∃ v', Wr w' b v' (xs ++ zs) ∧ Only (OfWr b v) w w' ∧ Moved w v v' := by
  obtain ⟨i0, hi, hz0, hz1, hz2⟩ := info_parts infoU8
  obtain ⟨hbx, hrow⟩ := id hw
  have hcell := hbx.cell
  have hbl := hbx.lt
  have hzl : zs.length = m := by have := hl.1; rwa [vals_length] at this
  have HZ := Lib.hid hzl
  have HL := Lib.hid hl
  have HN := Lib.hid hnil
  have HNR := Lib.hid (hbx.not_row (by decide) hrow)
  clear hzl hl hnil
  go_enter Try.func26, Try.ntmps26
  go_wp2_with (at_builtin; refine wpList_append_from rfl _ _ 22 rfl (b + 1) 5 i0 (.int .u8 0) 1 Try.underlying22 hi hz0 hz1 hz2 rfl v xs.length (vals .u8 xs) rfl hrow B A m c (vals .u8 zs) rfl HL.out HN.out (vals_one _ _) (by unfold maxLen; omega) (by omega) (by omega) ?_; intro A' c' w1 hown1 hgrow hat; have hb1 : Boxed w1 b 53 v := hbx.kept hgrow HNR.out; have hc1 := hb1.cell; have hf1 := hb1.frozen)
  go_end0
  have hL : xs.length + m = (xs ++ zs).length := by rw [List.length_append, HZ.out]
  rw [hL, ← vals_append] at hown1
  rw [hL] at hat ⊢
  have hfin := wr_grown (w := w) (v := v) hbx hrow (Only.refl _ _) (.inl rfl) (Keep.refl w) hown1 hgrow (by rcases hat with h | h; exact .inl h; exact .inr ⟨_, h, Nat.le_refl _⟩)
  exact ⟨rfl, _, hfin⟩

theorem done_any (b : Nat) (v : Value) (xs : List Int) (w : World) (hw : Wr w b v xs) (hx : xs.length ≤ 1099511627776) :
    Calls Try.prog 27 #[.pointer (some ⟨b, 0, none⟩)] w fun e w' => ∃ v', e = .returned v' ∧ w'.ownsRow w.heap.size 5 1 v' xs.length (vals .u8 xs) ∧ Keep w w' := by
  obtain ⟨hbx, hrow⟩ := hw
  obtain ⟨A, c, rfl, hl⟩ := Lies.of_row hrow
  have hcell := hbx.cell
  have HC := Lib.hid (clone_any A xs.length c xs w w.heap.size (by omega) (Nat.le_refl _) hl)
  clear hl hrow
  go_enter Try.func27, Try.ntmps27
  go_wp2_with (go_at_call 21; refine HC.out.mono ?_; rintro e w' ⟨v', rfl, h1, h2⟩)
  go_ret
  exact ⟨v', rfl, h1, h2⟩
end Go.Proofs.Ytjhakgnjodocpaa
