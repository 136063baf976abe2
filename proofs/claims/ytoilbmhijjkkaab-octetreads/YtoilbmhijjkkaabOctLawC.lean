/- The walk of OctetWrites. -/
import Derived.Test.YtoilbmhijjkkaabOctLawB
import Derived.Test.YtoilbmhijjkkaabOps
import Derived.Test.YtoilbmhijjkkaabRefPut
namespace Go.Proofs.Ytoilbmhijjkkaab
open Go.RowKit

/-- A step in a box of its own. -/
def OpBox (w : World) (g : Nat) (o : OpV) : Prop := w.heap[g]? = some (.cells #[.int .i64 o.kind, .int .i64 o.size, .int .i64 o.n, .slice o.a o.len o.cap] 29 (0, 0))
theorem OpBox.cells {w : World} {g : Nat} {o : OpV} (h : OpBox w g o) : OpAt w g 0 o := by
  unfold OpBox at h
  refine ⟨?_, ?_, ?_, ?_⟩ <;> simp [World.cell?, h]
theorem OpBox.lt {w : World} {g : Nat} {o : OpV} (h : OpBox w g o) : g < w.heap.size := (Array.getElem?_eq_some_iff.1 h).1
theorem OpBox.new (w : World) (o : OpV) : OpBox (w.alloc (.cells #[.int .i64 o.kind, .int .i64 o.size, .int .i64 o.n, .slice o.a o.len o.cap] 29)) w.heap.size o := heap_alloc_new w _
theorem OpBox.only {w w' : World} {S : Nat → Prop} {g : Nat} {o : OpV} (h : OpBox w g o) (ho : Only S w w') (hS : ¬ S g) : OpBox w' g o := (ho.block g h.lt hS).trans h

/-- A step's bytes. -/
def stepB (o : OpV) : List Int :=
  if o.kind = 0 ∨ o.kind = 1 ∨ o.kind = 2 then putB o.n (fsz o.size).toNat else if o.kind = 3 then o.z else []
def bytesB (os : List OpV) (j : Nat) : List Int := (os.take j).flatMap stepB
theorem bytesB_step {os : List OpV} {j : Nat} {o : OpV} (h : os[j]? = some o) : bytesB os (j + 1) = bytesB os j ++ stepB o := by
  unfold bytesB
  rw [List.take_add_one, h, List.flatMap_append]
  simp

/-- Two rows of the call's own, that share no block. -/
def Apart (v x : Value) : Prop := ∀ g, v.ownBlock = some g → x.ownBlock ≠ some g

/-- A writer and the document's own bytes. -/
def Two (w : World) (b : Nat) (v x : Value) (xs ys : List Int) : Prop := Wr w b v xs ∧ w.ownsRow (b + 1) 5 1 x ys.length (vals .u8 ys) ∧ Apart v x

/-- The writer's call leaves the document's bytes. -/
theorem Two.wrote {w w' : World} {b : Nat} {v v' x : Value} {xs xs' ys : List Int} (h : Two w b v x xs ys) (hw : Wr w' b v' xs') (ho : Only (OfWr b v) w w') (hm : Moved w v v') : Two w' b v' x xs' ys := by
  refine ⟨hw, ownsRow_only h.2.1 ho ?_, ?_⟩
  · intro g hg hS
    rcases hS with rfl | hS
    · have := (h.2.1.lt g hg).1; omega
    · exact h.2.2 g hS hg
  · intro g hg hx
    rcases hm with e | ⟨g', e, hge⟩
    · exact h.2.2 g (e ▸ hg) hx
    · have := (h.2.1.lt g hx).2
      have : g' = g := Option.some.inj (e.symm.trans hg)
      omega
/-- The append to the document's bytes leaves the writer. -/
theorem Two.grew {w w' : World} {b : Nat} {v x x' : Value} {xs ys ys' : List Int} (h : Two w b v x xs ys) (hg : w.grownBy w' x.ownBlock) (hr : w'.ownsRow (b + 1) 5 1 x' ys'.length (vals .u8 ys')) (hat : x'.ownBlock = x.ownBlock ∨ x'.ownBlock = some w.heap.size) : Two w' b v x' xs ys' := by
  have ho : Only (fun k => x.ownBlock = some k) w w' := (Only.refl _ _).grown hg (fun k _ e => e)
  refine ⟨h.1.only ho ?_, hr, ?_⟩
  · intro k hk hx
    rcases hk with rfl | hk
    · have := (h.2.1.lt k hx).1; omega
    · exact h.2.2 k hk hx
  · intro g hg' hx
    rcases hat with e | e
    · exact h.2.2 g hg' (e ▸ hx)
    · have := (h.1.2.lt g hg').2
      have : w.heap.size = g := Option.some.inj (e.symm.trans hx)
      omega
theorem Two.keep {w w' : World} {b : Nat} {v x : Value} {xs ys : List Int} (h : Two w b v x xs ys) (hk : Keep w w') : Two w' b v x xs ys := ⟨h.1.keep hk, row_keep h.2.1 hk, h.2.2⟩
theorem Two.grew_keep {w0 w w' : World} {b : Nat} {v x : Value} {xs ys : List Int} (h : Two w b v x xs ys) (hk : Keep w0 w) (hb : w0.heap.size ≤ b) (hg : w.grownBy w' x.ownBlock) : Keep w0 w' :=
  Only.keep hk ((Only.refl (fun k => x.ownBlock = some k) _).grown hg (fun k _ e => e)) (fun k e => by have := (h.2.1.lt k e).1; omega)

theorem put_w (n : Int) (size : Int) (b : Nat) (v : Value) (xs : List Int) (w : World) (hw : Wr w b v xs) (hx : xs.length ≤ 1099511627776) :
    Calls Try.prog 11 #[.pointer (some ⟨b, 0, none⟩), .int .u64 (IntKind.u64.wrap n), .int .i64 size] w fun e w' => e = .returned (.tuple #[]) ∧ ∃ v', Wr w' b v' (xs ++ putB n (fsz size).toNat) ∧ Only (OfWr b v) w w' ∧ Moved w v v' := by
  have hK : (fsz size).toNat ≤ 8 := by have := fsz_bd size; omega
  have := put_any (IntKind.u64.wrap n) size b v xs w hw hx
  rwa [putB_wrap n _ hK] at this
theorem rput_w (n size : Int) (w : World) :
    Calls Try.prog 12 #[.int .u64 (IntKind.u64.wrap n), .int .i64 size] w fun e w' => ∃ v, e = .returned v ∧ w'.ownsRow w.heap.size 5 1 v (fsz size).toNat (vals .u8 (putB n (fsz size).toNat)) ∧ Keep w w' := by
  have hK : (fsz size).toNat ≤ 8 := by have := fsz_bd size; omega
  have := rput_any (IntKind.u64.wrap n) size w (by rw [IntKind.wrap_u64]; omega) (by rw [IntKind.wrap_u64]; omega)
  rwa [putB_wrap n _ hK] at this

set_option maxRecDepth 100000 in
set_option maxHeartbeats 2000000 in
theorem writes_core (a : Option Addr) (len cap : Nat) (os : List OpV) (w : World) (hos : Ops w a len os) (hfew : fewB os = true) :
    Calls Try.prog 3 #[.slice a len cap] w fun e w' => e = .returned (.bool true) ∧ Keep w w' := by
  obtain ⟨i0, hi, hz0, hz1, hz2⟩ := info_parts infoU8
  obtain ⟨hm, hl, hat⟩ := id hos
  have hlen : os.length ≤ 40 ∧ ∀ o ∈ os, o.len ≤ 60 := by
    unfold fewB at hfew
    simpa [and_comm] using hfew
  obtain ⟨h40, h60⟩ := hlen
  subst hl
  have HAT := Lib.hid hat
  have HOS := Lib.hid hos
  have H60 := Lib.hid h60
  clear hat hos h60 hm
  go_enter Try.func3, Try.ntmps3
  go_wp2_with (first
    | (go_at_call 9; refine (alive_any _).mono ?_; rintro e w0 ⟨rfl, hk0⟩)
    | (go_at_call 10; refine (few_any _ _ _ os _ (HOS.out.keep hk0)).mono ?_; rintro e w1 ⟨rfl, hk01⟩; rw [hfew]))
  have hk1 := hk0.trans hk01
  generalize hb0' : w1.heap.size = b0 at *
  have hb0 : w.heap.size ≤ b0 := by rw [← hb0']; exact hk1.size
  go_loopw [4, 15] (fun x i wr => ∃ (j : Nat) (xs : List Int) (v : Value), j ≤ os.length ∧ i = .int .i64 j ∧ Hid (xs = bytesB os j) ∧ xs.length ≤ 60 * j ∧ Two wr b0 v x xs xs ∧ Keep w wr) (fun _ i _ => os.length - (intOf i).toNat)
  case atStart =>
    refine ⟨0, [], .slice none 0 0, Nat.zero_le _, rfl, Lib.hid rfl, Nat.le_refl _, ⟨?_, ?_, ?_⟩, (hk1.alloc _).alloc _⟩
    · rw [← hb0']; exact (wr_new w1).keep ((Keep.refl _).alloc _)
    · have h := World.ownsRow_made (base := b0 + 1) (e := 5) (size := 1) (w1.alloc (.cells #[.slice none 0 0] 27)) #[] 0 (by simp; omega) (Nat.zero_le _) rfl
      simpa [hb0', vals] using h
    · intro g h; cases h
  case round =>
    obtain ⟨j, xs, v, hj, rfl, hxs, hxl, htw, hkr⟩ := hrel
    obtain ⟨Ax, cx, rfl, -⟩ := Lies.of_row htw.2.1
    by_cases hlt : j < os.length
    · have hoj : os[j]? = some os[j] := List.getElem?_eq_getElem hlt
      generalize os[j] = o at hoj
      obtain ⟨hok, b, off, rfl, hb, hc⟩ := HAT.out j o hoj
      have hol := H60.out o (List.mem_of_getElem? hoj)
      have HO := Lib.hid hoj
      have hbx := OpBox.new wr o
      have hta := htw.keep ((Keep.refl wr).alloc (.cells #[.int .i64 o.kind, .int .i64 o.size, .int .i64 o.n, .slice o.a o.len o.cap] 29))
      have hka := hkr.alloc (.cells #[.int .i64 o.kind, .int .i64 o.size, .int .i64 o.n, .slice o.a o.len o.cap] 29)
      have hba := hbx
      obtain ⟨c0, c1, c2, c3⟩ := hc.keep hkr hb
      have hf := fsz_bd o.size
      have hbr := htw.1.1.lt
      clear hc hoj hbx
      obtain ⟨kind, size, n, ba, bl, bc, bz⟩ := o
      simp only at c0 c1 c2 c3 hol hok hta hka hba hf
      by_cases k0 : kind = 0
      · subst k0
        go_wp2_with fail
        refine (put_w _ _ b0 v xs _ hta.1 (by omega)).mono ?_
        rintro e w1 ⟨rfl, v1, hw1, ho1, hm1⟩
        have hk1 := wr_keep hka hta.1 hb0 ho1
        have ht1 := hta.wrote hw1 ho1 hm1
        have hb1 := hba.only ho1 (by rintro (h | h); omega; have := (htw.1.2.lt _ h).2; omega)
        obtain ⟨c0', c1', c2', c3'⟩ := hb1.cells
        have hgs := hb1.lt
        clear hta hba ho1 hm1 hw1 hka
        go_wp2_with fail
        refine (rput_w _ _ w1).mono ?_
        rintro e w2 ⟨v2, rfl, hr2, hk12⟩
        have hk2 := hk1.trans hk12
        have ht2 := ht1.keep hk12
        obtain ⟨A2, c2, rfl, hl2⟩ := Lies.of_row hr2
        have HN := Lib.hid (row_nil hr2)
        have HL2 := Lib.hid hl2
        have HR := Lib.hid ht2.2.1
        have hs2 := hk12.size
        clear hl2 hr2 hk1 ht1 hk12 c0' c1' c2' c3'
        go_wp2_with (at_builtin; refine wpList_append_from rfl _ _ 25 rfl (b0 + 1) 5 i0 (.int .u8 0) 1 Try.underlying25 hi hz0 hz1 hz2 rfl _ xs.length (vals .u8 xs) rfl HR.out _ A2 _ c2 _ rfl HL2.out HN.out (vals_one _ _) (by unfold maxLen; omega) (by omega) (by omega) ?_; intro A3 c3 w3 hown3 hgrow hat3)
        have hk3 := ht2.grew_keep hk2 hb0 hgrow
        have hll : (xs ++ putB n (fsz size).toNat).length = xs.length + (fsz size).toNat := by rw [List.length_append, putB_length]
        rw [← vals_append, ← hll] at hown3
        rw [← hll] at hat3
        have ht3 := ht2.grew hgrow hown3 hat3
        go_roundw
        case rel => exact ⟨j + 1, xs ++ putB n (fsz size).toNat, v1, hlt, by go_num, Lib.hid (by rw [bytesB_step HO.out, ← hxs.out]; rfl), by rw [hll]; omega, by rw [← hll]; exact ht3, hk3⟩
        case measure => simp [intOf]; omega
      by_cases k1 : kind = 1
      · subst k1
        go_wp2_with fail
        refine (put_w _ _ b0 v xs _ hta.1 (by omega)).mono ?_
        rintro e w1 ⟨rfl, v1, hw1, ho1, hm1⟩
        have hk1 := wr_keep hka hta.1 hb0 ho1
        have ht1 := hta.wrote hw1 ho1 hm1
        have hb1 := hba.only ho1 (by rintro (h | h); omega; have := (htw.1.2.lt _ h).2; omega)
        obtain ⟨c0', c1', c2', c3'⟩ := hb1.cells
        have hgs := hb1.lt
        clear hta hba ho1 hm1 hw1 hka
        go_wp2_with fail
        refine (rput_w _ _ w1).mono ?_
        rintro e w2 ⟨v2, rfl, hr2, hk12⟩
        have hk2 := hk1.trans hk12
        have ht2 := ht1.keep hk12
        obtain ⟨A2, c2, rfl, hl2⟩ := Lies.of_row hr2
        have HN := Lib.hid (row_nil hr2)
        have HL2 := Lib.hid hl2
        have HR := Lib.hid ht2.2.1
        have hs2 := hk12.size
        clear hl2 hr2 hk1 ht1 hk12 c0' c1' c2' c3'
        go_wp2_with (at_builtin; refine wpList_append_from rfl _ _ 25 rfl (b0 + 1) 5 i0 (.int .u8 0) 1 Try.underlying25 hi hz0 hz1 hz2 rfl _ xs.length (vals .u8 xs) rfl HR.out _ A2 _ c2 _ rfl HL2.out HN.out (vals_one _ _) (by unfold maxLen; omega) (by omega) (by omega) ?_; intro A3 c3 w3 hown3 hgrow hat3)
        have hk3 := ht2.grew_keep hk2 hb0 hgrow
        have hll : (xs ++ putB n (fsz size).toNat).length = xs.length + (fsz size).toNat := by rw [List.length_append, putB_length]
        rw [← vals_append, ← hll] at hown3
        rw [← hll] at hat3
        have ht3 := ht2.grew hgrow hown3 hat3
        go_roundw
        case rel => exact ⟨j + 1, xs ++ putB n (fsz size).toNat, v1, hlt, by go_num, Lib.hid (by rw [bytesB_step HO.out, ← hxs.out]; rfl), by rw [hll]; omega, by rw [← hll]; exact ht3, hk3⟩
        case measure => simp [intOf]; omega
      by_cases k2 : kind = 2
      · subst k2
        go_wp2_with fail
        refine (wint_any _ _ b0 v xs _ hta.1 (by omega)).mono ?_
        rintro e w1 ⟨rfl, v1, hw1, ho1, hm1⟩
        have hk1 := wr_keep hka hta.1 hb0 ho1
        have ht1 := hta.wrote hw1 ho1 hm1
        have hb1 := hba.only ho1 (by rintro (h | h); omega; have := (htw.1.2.lt _ h).2; omega)
        obtain ⟨c0', c1', c2', c3'⟩ := hb1.cells
        have hgs := hb1.lt
        clear hta hba ho1 hm1 hw1 hka
        go_wp2_with fail
        refine (rpint_any _ _ w1).mono ?_
        rintro e w2 ⟨v2, rfl, hr2, hk12⟩
        have hk2 := hk1.trans hk12
        have ht2 := ht1.keep hk12
        obtain ⟨A2, c2, rfl, hl2⟩ := Lies.of_row hr2
        have HN := Lib.hid (row_nil hr2)
        have HL2 := Lib.hid hl2
        have HR := Lib.hid ht2.2.1
        have hs2 := hk12.size
        clear hl2 hr2 hk1 ht1 hk12 c0' c1' c2' c3'
        go_wp2_with (at_builtin; refine wpList_append_from rfl _ _ 25 rfl (b0 + 1) 5 i0 (.int .u8 0) 1 Try.underlying25 hi hz0 hz1 hz2 rfl _ xs.length (vals .u8 xs) rfl HR.out _ A2 _ c2 _ rfl HL2.out HN.out (vals_one _ _) (by unfold maxLen; omega) (by omega) (by omega) ?_; intro A3 c3 w3 hown3 hgrow hat3)
        have hk3 := ht2.grew_keep hk2 hb0 hgrow
        have hll : (xs ++ putB n (fsz size).toNat).length = xs.length + (fsz size).toNat := by rw [List.length_append, putB_length]
        rw [← vals_append, ← hll] at hown3
        rw [← hll] at hat3
        have ht3 := ht2.grew hgrow hown3 hat3
        go_roundw
        case rel => exact ⟨j + 1, xs ++ putB n (fsz size).toNat, v1, hlt, by go_num, Lib.hid (by rw [bytesB_step HO.out, ← hxs.out]; rfl), by rw [hll]; omega, by rw [← hll]; exact ht3, hk3⟩
        case measure => simp [intOf]; omega
      by_cases k3 : kind = 3
      · subst k3
        have hlb := hok.2.2.2.1.2.1
        have hnb := hok.2.2.2.2
        have HLB := Lib.hid (hlb.keep hka (Nat.le_refl _))
        have HNB := Lib.hid hnb
        have HL0 := Lib.hid hlb
        have hbz : bz.length = bl := by have := hlb.1; rwa [vals_length] at this
        clear hok hlb hnb
        go_wp2_with fail
        refine (wraw_any _ _ _ bz _ b0 v xs _ hta.1 (by omega) (by omega) HLB.out HNB.out).mono ?_
        rintro e w1 ⟨rfl, v1, hw1, ho1, hm1⟩
        have hk1 := wr_keep hka hta.1 hb0 ho1
        have ht1 := hta.wrote hw1 ho1 hm1
        have hb1 := hba.only ho1 (by rintro (h | h); omega; have := (htw.1.2.lt _ h).2; omega)
        obtain ⟨c0', c1', c2', c3'⟩ := hb1.cells
        have hgs := hb1.lt
        have HR := Lib.hid ht1.2.1
        have HL1 := Lib.hid (HL0.out.keep hk1 (Nat.le_refl _))
        have HBZ := Lib.hid hbz
        clear hta hba ho1 hm1 hw1 hka HLB hbz
        go_wp2_with (at_builtin; refine wpList_append_from rfl _ _ 25 rfl (b0 + 1) 5 i0 (.int .u8 0) 1 Try.underlying25 hi hz0 hz1 hz2 rfl _ xs.length (vals .u8 xs) rfl HR.out _ ba bl bc (vals .u8 bz) rfl HL1.out HNB.out (vals_one _ _) (by unfold maxLen; omega) (by omega) (by omega) ?_; intro A3 c3 w3 hown3 hgrow hat3)
        have hk3 := ht1.grew_keep hk1 hb0 hgrow
        have hll : (xs ++ bz).length = xs.length + bl := by rw [List.length_append, HBZ.out]
        rw [← vals_append, ← hll] at hown3
        rw [← hll] at hat3
        have ht3 := ht1.grew hgrow hown3 hat3
        go_roundw
        case rel => exact ⟨j + 1, xs ++ bz, v1, hlt, by go_num, Lib.hid (by rw [bytesB_step HO.out, ← hxs.out]; rfl), by rw [hll]; omega, by rw [← hll]; exact ht3, hk3⟩
        case measure => simp [intOf]; omega
      · have hse : stepB ⟨kind, size, n, ba, bl, bc, bz⟩ = [] := by simp [stepB, k0, k1, k2, k3]
        have HSE := Lib.hid hse
        clear hse
        go_wp2_with fail
        go_roundw
        case rel => exact ⟨j + 1, xs, v, hlt, by go_num, Lib.hid (by rw [bytesB_step HO.out, ← hxs.out, HSE.out, List.append_nil]), by omega, hta, hka⟩
        case measure => simp [intOf]; omega
    · obtain rfl : j = os.length := by omega
      go_wp2_with fail
      refine (done_any b0 v xs wr htw.1 (by omega)).mono ?_
      rintro e w2 ⟨v2, rfl, hr2, hk12⟩
      have hk2 := hkr.trans hk12
      have ht2 := htw.keep hk12
      obtain ⟨A2, c2, rfl, hl2⟩ := Lies.of_row hr2
      obtain ⟨A3, c3, e3, hl3⟩ := Lies.of_row ht2.2.1
      injection e3 with e31 e32 e33
      subst e31 e33
      clear hr2 hk12 htw hkr
      go_wp2_with fail
      refine (same_yes _ _ _ _ _ _ xs w2 _ _ hl2 hl3).mono ?_
      rintro e w' ⟨rfl, rfl⟩
      go_wp2
      go_ret
      exact ⟨rfl, hk2⟩

theorem writes_many (a : Option Addr) (len cap : Nat) (os : List OpV) (w : World) (hos : Ops w a len os) (hfew : fewB os = false) :
    Calls Try.prog 3 #[.slice a len cap] w fun e w' => e = .returned (.bool true) ∧ Keep w w' := by
  have HOS := Lib.hid hos
  clear hos
  go_enter Try.func3, Try.ntmps3
  go_wp2_with (first
    | (go_at_call 9; refine (alive_any _).mono ?_; rintro e w0 ⟨rfl, hk0⟩)
    | (go_at_call 10; refine (few_any _ _ _ os _ (HOS.out.keep hk0)).mono ?_; rintro e w1 ⟨rfl, hk01⟩; rw [hfew]))
  go_ret
  exact ⟨rfl, hk0.trans hk01⟩

theorem OctetWrites_std (a0 : Option Addr) (l0 c0 : Nat) (z0 : List OpV) (w : World) (h0 : Ops w a0 l0 z0) :
    Calls Try.prog 3 #[.slice a0 l0 c0] w fun e w' => e = .returned (.bool true) ∧ Below w.heap.size w w' := by
  cases h : fewB z0 with
  | true => exact writes_core a0 l0 c0 z0 w h0 h
  | false => exact writes_many a0 l0 c0 z0 w h0 h
end Go.Proofs.Ytoilbmhijjkkaab
