/- The walk of OctetReads. -/
import Derived.Test.YtoilbmhijjkkaabOctLawC
import Derived.Test.YtoilbmhijjkkaabRefRead3
import Derived.Test.YtoilbmhijjkkaabRefJoin
namespace Go.Proofs.Ytoilbmhijjkkaab
open Go.RowKit

/-- n bytes, whichever they are, at the head of block g. -/
def Bytes (w : World) (g n : Nat) : Prop := ∃ cur, w.heap[g]? = some (.cells cur 5 (0, 0)) ∧ ∀ k, k < n → ∃ x, cur[k]? = some (.int .u8 x)
theorem Bytes.set {w : World} {g n : Nat} (h : Bytes w g n) (j : Nat) (y : Int) : Bytes (w.setCell ⟨g, j, none⟩ (.int .u8 y)) g n := by
  obtain ⟨cur, h1, h2⟩ := h
  refine ⟨cur.setIfInBounds j (.int .u8 y), by simp [World.setCell, Array.getElem?_modify, h1], fun k hk => ?_⟩
  obtain ⟨x, hx⟩ := h2 k hk
  by_cases e : j = k
  · subst e
    have hlt := (Array.getElem?_eq_some_iff.1 hx).1
    exact ⟨y, by simp [hlt]⟩
  · exact ⟨x, by simp [e, hx]⟩
theorem Bytes.of_row {w : World} {base g n c : Nat} {zs : List Int} (h : w.ownsRow base 5 1 (.slice (some ⟨g, 0, none⟩) n c) n (vals .u8 zs)) : Bytes w g n := by
  rcases h.2 with ⟨e, _⟩ | ⟨g', cap, cur, e, hb, hg, hn, hm, hs, ht⟩
  · injection e with e; cases e
  injection e with e1 e2 e3
  injection e1 with e1
  injection e1 with e1
  subst e1
  refine ⟨cur, hg, fun k hk => ?_⟩
  have hl : k < cur.toList.length := by simp; omega
  have h1 : (cur.toList.take (n * 1))[k]? = cur.toList[k]? := by rw [List.getElem?_take]; simp; omega
  rw [ht] at h1
  have hz : k < zs.length := by have := h.1; rw [vals_length] at this; omega
  have h2 : (vals .u8 zs)[k]? = some (.int .u8 zs[k]) := by simp [vals, hz]
  exact ⟨zs[k], by rw [← Array.getElem?_toList, ← h1, h2]⟩
theorem Bytes.cell {w : World} {g n k : Nat} (h : Bytes w g n) (hk : k < n) : ∃ x, w.cell? ⟨g, k, none⟩ = some (.int .u8 x) ∧ w.frozen? ⟨g, k, none⟩ = false := by
  obtain ⟨cur, h1, h2⟩ := h
  obtain ⟨x, hx⟩ := h2 k hk
  exact ⟨x, by simp [World.cell?, h1, hx], by simp [World.frozen?, h1]⟩

/-- The document's reader in a box. -/
def XB (w : World) (bx : Nat) (A : Option Addr) (c : Nat) (bad : Bool) (ys : List Int) : Prop := w.heap[bx]? = some (.cells #[.slice A ys.length c, .bool bad] 43 (0, 0))
theorem XB.lt {w : World} {bx : Nat} {A : Option Addr} {c : Nat} {bad : Bool} {ys : List Int} (h : XB w bx A c bad ys) : bx < w.heap.size := (Array.getElem?_eq_some_iff.1 h).1
theorem XB.only {w w' : World} {S : Nat → Prop} {bx : Nat} {A : Option Addr} {c : Nat} {bad : Bool} {ys : List Int} (h : XB w bx A c bad ys) (ho : Only S w w') (hS : ¬ S bx) : XB w' bx A c bad ys := (ho.block bx h.lt hS).trans h
theorem XB.keep {w w' : World} {bx : Nat} {A : Option Addr} {c : Nat} {bad : Bool} {ys : List Int} (h : XB w bx A c bad ys) (hk : Keep w w') : XB w' bx A c bad ys := (hk.block bx h.lt).trans h

set_option maxRecDepth 100000 in
set_option maxHeartbeats 4000000 in
theorem reads_core (A : Option Addr) (n c : Nat) (xs : List Int) (a : Option Addr) (len cap : Nat) (os : List OpV) (w : World) (hl : Lies w w.heap.size A n (vals .u8 xs)) (hnil : A = none → c = 0) (hnc : n ≤ c) (hby : Byt xs) (hos : Ops w a len os) (hn : n ≤ 200) (hm : len ≤ 60) :
    Calls Try.prog 4 #[.slice A n c, .slice a len cap] w fun e w' => e = .returned (.bool true) ∧ Keep w w' := by
  have hxl : xs.length = n := by have := hl.1; rwa [vals_length] at this
  obtain ⟨-, hlo, hat⟩ := hos
  subst hxl
  subst hlo
  have hd1 : decide (200 < (xs.length : Int)) = false := by simp; omega
  have hd2 : decide (60 < (os.length : Int)) = false := by simp; omega
  have HAT := Lib.hid hat
  have HBY := Lib.hid hby
  have HN := Lib.hid hnil
  have HL := Lib.hid hl
  clear hat hby hnil hl
  go_enter Try.func4, Try.ntmps4
  go_wp2_with (go_at_call 9; refine (alive_any _).mono ?_; rintro e w0 ⟨rfl, hk0⟩)
  have hk0a := hk0.alloc (.cells #[.slice A xs.length c] 25)
  refine (join_one w0.heap.size A xs.length c xs _ w.heap.size (by have := hk0.size; simp; omega) (heap_alloc_new w0 _) (HL.out.keep hk0a (Nat.le_refl _)) HN.out hn).mono ?_
  rintro e w1 ⟨v1, rfl, hr1, hk1a⟩
  have hk1 := hk0a.trans hk1a
  obtain ⟨A1, c1, rfl, hl1⟩ := Lies.of_row hr1
  have hro : ∀ k, (Value.slice A1 xs.length c1).ownBlock = some k → w.heap.size ≤ k ∧ k < w1.heap.size := fun k e => ⟨Nat.le_trans hk0a.size (hr1.lt k e).1, (hr1.lt k e).2⟩
  clear hk0 hk0a hk1a
  go_wp2_with fail
  refine (open_from A1 _ c1 xs w1 w1.heap.size (by omega) (Nat.le_refl _) hl1).mono ?_
  rintro e w2 ⟨b4, rfl, hb4, hr2, hk12⟩
  have hk2 := hk1.trans hk12
  have hbw : w.heap.size ≤ b4 := Nat.le_trans hk1.size hb4
  have hrow2 := row_keep hr1 hk12
  clear hk1 hk12 hl1 hr1
  go_wp2_with fail
  go_loopw [37] (fun i wr => ∃ (j : Nat), j ≤ xs.length ∧ i = .int .i64 j ∧ RdFrom w1.heap.size wr b4 false xs ∧ Hid (∀ g, A1 = some ⟨g, 0, none⟩ → Bytes wr g xs.length) ∧ Keep w wr) (fun i _ => xs.length - (intOf i).toNat)
  case atStart => exact ⟨0, Nat.zero_le _, rfl, hr2, Lib.hid (fun g e => by subst e; exact Bytes.of_row hrow2), hk2⟩
  case round =>
    obtain ⟨j, hj, rfl, hrd, hbt, hkr⟩ := hrel
    by_cases hlt : j < xs.length
    · obtain ⟨g1, rfl⟩ : ∃ g, A1 = some ⟨g, 0, none⟩ := by
        rcases hrow2.2 with ⟨_, e⟩ | ⟨g', cap', cur, e, _⟩
        · omega
        · injection e with e; exact ⟨g', e⟩
      have hg1 := hro g1 rfl
      obtain ⟨x, hc, hfz⟩ := (hbt.out g1 rfl).cell hlt
      clear hrow2
      go_wp2_with fail
      have ho : Only (fun k => k = g1) wr (wr.setCell ⟨g1, j, none⟩ (.int .u8 (bits BinOp.xor .u8 x 255))) := (Only.refl _ _).setCell _ _ rfl
      have hbt' := (hbt.out g1 rfl).set j (bits BinOp.xor .u8 x 255)
      refine ⟨⟨j + 1, hlt, by go_num, hrd.only ho hg1.2 hb4, Lib.hid (fun g e => by injection e with e; injection e with e; subst e; exact hbt'), Only.keep hkr ho (fun k h => by omega)⟩, ?_⟩
      simp [intOf]; omega
    · obtain rfl : j = xs.length := by omega
      have hrd' := hrd.rd
      clear hrd hbt hr2 hk2 hrow2 hro
      go_wp2_with fail
      have hxb0 : XB (wr.alloc (.cells #[.slice A xs.length c, .bool false] 43)) wr.heap.size A c false xs := heap_alloc_new wr _
      have hrb0 := hrd'.keep ((Keep.refl _).alloc (.cells #[.slice A xs.length c, .bool false] 43))
      have hkb0 := hkr.alloc (.cells #[.slice A xs.length c, .bool false] 43)
      have hb4l := hrd'.lt
      generalize wr.alloc (.cells #[.slice A xs.length c, .bool false] 43) = w5 at *
      generalize wr.heap.size = bx at *
      clear hrd' hkr
      go_loopw [51] (fun i wr => ∃ (j : Nat) (A' : Option Addr) (c' : Nat) (bad : Bool) (ys : List Int), j ≤ os.length ∧ i = .int .i64 j ∧ Rd wr b4 bad ys ∧ XB wr bx A' c' bad ys ∧ Hid (Src w w.heap.size A' c' ys) ∧ Hid (Byt ys) ∧ ys.length ≤ 200 ∧ Keep w wr) (fun i _ => os.length - (intOf i).toNat)
      case atStart => exact ⟨0, A, c, false, xs, Nat.zero_le _, rfl, hrb0, hxb0, Lib.hid ⟨HL.out, hnc, HN.out⟩, HBY, hn, hkb0⟩
      case round =>
        obtain ⟨j, A', c', bad, ys, hj, rfl, hrd, hxb, hsr, hyb, hyl, hkr⟩ := hrel
        clear hxb0 hrb0 hkb0
        by_cases hlt : j < os.length
        · have hoj : os[j]? = some os[j] := List.getElem?_eq_getElem hlt
          generalize os[j] = o at hoj
          obtain ⟨hok, b, off, rfl, hb, hc⟩ := HAT.out j o hoj
          have hal := (Keep.refl wr).alloc (.cells #[.int .i64 o.kind, .int .i64 o.size, .int .i64 o.n, .slice o.a o.len o.cap] 29)
          have hba := OpBox.new wr o
          have hrda := hrd.keep hal
          have hxba := hxb.keep hal
          have hka := hkr.alloc (.cells #[.int .i64 o.kind, .int .i64 o.size, .int .i64 o.n, .slice o.a o.len o.cap] 29)
          have hsa : (wr.alloc (.cells #[.int .i64 o.kind, .int .i64 o.size, .int .i64 o.n, .slice o.a o.len o.cap] 29)).heap.size = wr.heap.size + 1 := by simp
          obtain ⟨c0, c1', c2, c3⟩ := hc.keep hkr hb
          have hf := fsz_bd o.size
          have hbx := hxb.lt
          have t := cell_two (show wr.heap[bx]? = _ from hxb)
          obtain ⟨t0, t1, t2, t3⟩ := t
          clear hc hoj hal hrd hxb hkr hok
          obtain ⟨kind, size, n, ba, bl, bc, bz⟩ := o
          simp only at c0 c1' c2 c3 hka hba hf hsa hrda hxba
          by_cases k0 : kind = 0
          · subst k0
            obtain ⟨K, hK⟩ := Int.eq_ofNat_of_zero_le (show 0 ≤ fsz size by omega)
            by_cases hg : bad = false ∧ K ≤ ys.length
            · obtain ⟨rfl, hg⟩ := hg
              have HK := Lib.hid hK
              clear hK hf
              go_wp2_with fail
              refine (rgetr_ok A' c' ys w.heap.size size K _ hka.size (hsr.out.forth hka (Nat.le_refl _)) hyb.out HK.out hg).mono ?_
              rintro e w1 ⟨A2, c2', rfl, hs2, hk1⟩
              have HS2 := Lib.hid (hs2.back hka (Nat.le_refl _))
              have HB2 := Lib.hid (hyb.out.drop K)
              have hl2 : (ys.drop K).length ≤ 200 := by simp; omega
              clear hs2
              generalize hys2 : ys.drop K = ys2 at *
              have HY2 := Lib.hid hys2
              clear hys2
              have hr1 := hrda.keep hk1
              have hx1 := hxba.keep hk1
              have hb1 := hba.only (Only.of_keep (fun _ => False) hk1) (fun h => h)
              have hkk1 := hka.trans hk1
              have hs1 := hk1.size
              rw [hsa] at hs1
              obtain ⟨u0, u1, u2, u3⟩ := cell_two (show w1.heap[bx]? = _ from hx1)
              obtain ⟨d0, d1, d2, d3⟩ := hb1.cells
              simp only [Nat.zero_add] at d0 d1 d2 d3
              have nb1 : bx < w1.heap.size := by omega
              have nb2 : wr.heap.size < w1.heap.size := by omega
              have nb3 : ¬ wr.heap.size = bx := by omega
              clear hrda hxba hba hka hk1 t0 t1 t2 t3 c0 c1' c2 c3
              go_wp2_with fail
              have hxa1 : XB ((w1.setCell ⟨bx, 0, none⟩ (.slice A2 (ys2).length c2')).setCell ⟨bx, 1, none⟩ (.bool false)) bx A2 c2' false ys2 := set_two1 _ (set_two0 _ hx1)
              have hx2 : XB (((w1.setCell ⟨bx, 0, none⟩ (.slice A2 (ys2).length c2')).setCell ⟨bx, 1, none⟩ (.bool false)).alloc (.cells #[.slice A2 (ys2).length c2', .bool false] 43)) bx A2 c2' false ys2 := hxa1.keep ((Keep.refl _).alloc _)
              have ho2 : Only (fun k => k = bx) w1 (((w1.setCell ⟨bx, 0, none⟩ (.slice A2 (ys2).length c2')).setCell ⟨bx, 1, none⟩ (.bool false)).alloc (.cells #[.slice A2 (ys2).length c2', .bool false] 43)) := (((Only.refl (fun k => k = bx) w1).setCell _ _ rfl).setCell _ _ rfl).alloc _
              have hr2 := hr1.only ho2 (fun k hk h => by omega)
              have hk2 := Only.keep hkk1 ho2 (fun k h => by omega)
              have hb2 := hb1.only ho2 nb3
              generalize ((w1.setCell ⟨bx, 0, none⟩ (.slice A2 (ys2).length c2')).setCell ⟨bx, 1, none⟩ (.bool false)).alloc (.cells #[.slice A2 (ys2).length c2', .bool false] 43) = w2 at *
              clear hr1 hx1 hb1 hkk1 ho2 hxa1 u0 u1 u2 u3 d0 d1 d2 d3
              refine (get_ok size K b4 ys w2 hr2 (by omega) hyb.out HK.out hg).mono ?_
              rintro e w3 ⟨rfl, hr3, ho3⟩
              rw [HY2.out] at hr3
              have hx3 := hx2.only ho3 (by omega)
              have hk3 := rd_keep hk2 hbw ho3
              clear hr2 hx2 hk2 ho3 hb2
              obtain ⟨t0, t1, t2, t3⟩ := cell_two (show w3.heap[bx]? = some (.cells #[.slice A2 (ys2).length c2', .bool false] 43 (0, 0)) from hx3)
              have hr3d := hr3.keep (Keep.refl w3).drew
              try go_wp2_with fail
              go_region_held3 (fun w' => w'.cell? ⟨bx, 0, none⟩ = some (.slice A2 (ys2).length c2') ∧ w'.cell? ⟨bx, 1, none⟩ = some (.bool false)) (first | exact ⟨t0, t1⟩)
                (first
                  | (go_at_call 27; refine (left_any b4 _ _ _ hr3d).mono ?_; rintro e w' ⟨rfl, rfl⟩)
                  | (go_at_call 28; refine (bad_any b4 _ _ _ hr3d).mono ?_; rintro e w' ⟨rfl, rfl⟩))
              go_wp2_with fail
              go_roundw
              case rel => exact ⟨j + 1, A2, c2', false, ys2, hlt, by go_num, hr3d, hx3.keep (Keep.refl w3).drew, HS2, HB2, hl2, hk3.drew⟩
              case measure => simp [intOf]; omega
            · have hg' : bad = true ∨ (ys.length : Int) < fsz size := by
                cases bad
                · exact .inr (by have : ¬ K ≤ ys.length := fun h => hg ⟨rfl, h⟩; omega)
                · exact .inl rfl
              have HG := Lib.hid hg'
              have HS2 := hsr
              have HB2 := hyb
              have hl2 := hyl
              clear hK hf hg hg'
              go_wp2_with fail
              refine (rgetr_bad A' ys.length c' bad size _ HG.out).mono ?_
              rintro e w1 ⟨rfl, hk1⟩
              have hr1 := hrda.keep hk1
              have hx1 := hxba.keep hk1
              have hb1 := hba.only (Only.of_keep (fun _ => False) hk1) (fun h => h)
              have hkk1 := hka.trans hk1
              have hs1 := hk1.size
              rw [hsa] at hs1
              obtain ⟨u0, u1, u2, u3⟩ := cell_two (show w1.heap[bx]? = _ from hx1)
              obtain ⟨d0, d1, d2, d3⟩ := hb1.cells
              simp only [Nat.zero_add] at d0 d1 d2 d3
              have nb1 : bx < w1.heap.size := by omega
              have nb2 : wr.heap.size < w1.heap.size := by omega
              have nb3 : ¬ wr.heap.size = bx := by omega
              clear hrda hxba hba hka hk1 t0 t1 t2 t3 c0 c1' c2 c3
              go_wp2_with fail
              have hxa1 : XB ((w1.setCell ⟨bx, 0, none⟩ (.slice A' (ys).length c')).setCell ⟨bx, 1, none⟩ (.bool true)) bx A' c' true ys := set_two1 _ (set_two0 _ hx1)
              have hx2 : XB (((w1.setCell ⟨bx, 0, none⟩ (.slice A' (ys).length c')).setCell ⟨bx, 1, none⟩ (.bool true)).alloc (.cells #[.slice A' (ys).length c', .bool true] 43)) bx A' c' true ys := hxa1.keep ((Keep.refl _).alloc _)
              have ho2 : Only (fun k => k = bx) w1 (((w1.setCell ⟨bx, 0, none⟩ (.slice A' (ys).length c')).setCell ⟨bx, 1, none⟩ (.bool true)).alloc (.cells #[.slice A' (ys).length c', .bool true] 43)) := (((Only.refl (fun k => k = bx) w1).setCell _ _ rfl).setCell _ _ rfl).alloc _
              have hr2 := hr1.only ho2 (fun k hk h => by omega)
              have hk2 := Only.keep hkk1 ho2 (fun k h => by omega)
              have hb2 := hb1.only ho2 nb3
              generalize ((w1.setCell ⟨bx, 0, none⟩ (.slice A' (ys).length c')).setCell ⟨bx, 1, none⟩ (.bool true)).alloc (.cells #[.slice A' (ys).length c', .bool true] 43) = w2 at *
              clear hr1 hx1 hb1 hkk1 ho2 hxa1 u0 u1 u2 u3 d0 d1 d2 d3
              refine (get_bad size b4 ys bad w2 hr2 HG.out).mono ?_
              rintro e w3 ⟨rfl, hr3, ho3⟩
              have hx3 := hx2.only ho3 (by omega)
              have hk3 := rd_keep hk2 hbw ho3
              clear hr2 hx2 hk2 ho3 hb2
              obtain ⟨t0, t1, t2, t3⟩ := cell_two (show w3.heap[bx]? = some (.cells #[.slice A' (ys).length c', .bool true] 43 (0, 0)) from hx3)
              have hr3d := hr3.keep (Keep.refl w3).drew
              try go_wp2_with fail
              go_region_held3 (fun w' => w'.cell? ⟨bx, 0, none⟩ = some (.slice A' (ys).length c') ∧ w'.cell? ⟨bx, 1, none⟩ = some (.bool true)) (first | exact ⟨t0, t1⟩)
                (first
                  | (go_at_call 27; refine (left_any b4 _ _ _ hr3d).mono ?_; rintro e w' ⟨rfl, rfl⟩)
                  | (go_at_call 28; refine (bad_any b4 _ _ _ hr3d).mono ?_; rintro e w' ⟨rfl, rfl⟩))
              go_wp2_with fail
              go_roundw
              case rel => exact ⟨j + 1, A', c', true, ys, hlt, by go_num, hr3d, hx3.keep (Keep.refl w3).drew, HS2, HB2, hl2, hk3.drew⟩
              case measure => simp [intOf]; omega
          by_cases k1 : kind = 1
          · subst k1
            obtain ⟨K, hK⟩ := Int.eq_ofNat_of_zero_le (show 0 ≤ fsz size by omega)
            by_cases hg : bad = false ∧ K ≤ ys.length
            · obtain ⟨rfl, hg⟩ := hg
              have HK := Lib.hid hK
              clear hK hf
              go_wp2_with fail
              refine (rgetr_ok A' c' ys w.heap.size size K _ hka.size (hsr.out.forth hka (Nat.le_refl _)) hyb.out HK.out hg).mono ?_
              rintro e w1 ⟨A2, c2', rfl, hs2, hk1⟩
              have HS2 := Lib.hid (hs2.back hka (Nat.le_refl _))
              have HB2 := Lib.hid (hyb.out.drop K)
              have hl2 : (ys.drop K).length ≤ 200 := by simp; omega
              clear hs2
              generalize hys2 : ys.drop K = ys2 at *
              have HY2 := Lib.hid hys2
              clear hys2
              have hr1 := hrda.keep hk1
              have hx1 := hxba.keep hk1
              have hb1 := hba.only (Only.of_keep (fun _ => False) hk1) (fun h => h)
              have hkk1 := hka.trans hk1
              have hs1 := hk1.size
              rw [hsa] at hs1
              obtain ⟨u0, u1, u2, u3⟩ := cell_two (show w1.heap[bx]? = _ from hx1)
              obtain ⟨d0, d1, d2, d3⟩ := hb1.cells
              simp only [Nat.zero_add] at d0 d1 d2 d3
              have nb1 : bx < w1.heap.size := by omega
              have nb2 : wr.heap.size < w1.heap.size := by omega
              have nb3 : ¬ wr.heap.size = bx := by omega
              clear hrda hxba hba hka hk1 t0 t1 t2 t3 c0 c1' c2 c3
              go_wp2_with fail
              have hxa1 : XB ((w1.setCell ⟨bx, 0, none⟩ (.slice A2 (ys2).length c2')).setCell ⟨bx, 1, none⟩ (.bool false)) bx A2 c2' false ys2 := set_two1 _ (set_two0 _ hx1)
              have hx2 : XB (((w1.setCell ⟨bx, 0, none⟩ (.slice A2 (ys2).length c2')).setCell ⟨bx, 1, none⟩ (.bool false)).alloc (.cells #[.slice A2 (ys2).length c2', .bool false] 43)) bx A2 c2' false ys2 := hxa1.keep ((Keep.refl _).alloc _)
              have ho2 : Only (fun k => k = bx) w1 (((w1.setCell ⟨bx, 0, none⟩ (.slice A2 (ys2).length c2')).setCell ⟨bx, 1, none⟩ (.bool false)).alloc (.cells #[.slice A2 (ys2).length c2', .bool false] 43)) := (((Only.refl (fun k => k = bx) w1).setCell _ _ rfl).setCell _ _ rfl).alloc _
              have hr2 := hr1.only ho2 (fun k hk h => by omega)
              have hk2 := Only.keep hkk1 ho2 (fun k h => by omega)
              have hb2 := hb1.only ho2 nb3
              generalize ((w1.setCell ⟨bx, 0, none⟩ (.slice A2 (ys2).length c2')).setCell ⟨bx, 1, none⟩ (.bool false)).alloc (.cells #[.slice A2 (ys2).length c2', .bool false] 43) = w2 at *
              clear hr1 hx1 hb1 hkk1 ho2 hxa1 u0 u1 u2 u3 d0 d1 d2 d3
              refine (get_ok size K b4 ys w2 hr2 (by omega) hyb.out HK.out hg).mono ?_
              rintro e w3 ⟨rfl, hr3, ho3⟩
              rw [HY2.out] at hr3
              have hx3 := hx2.only ho3 (by omega)
              have hk3 := rd_keep hk2 hbw ho3
              clear hr2 hx2 hk2 ho3 hb2
              obtain ⟨t0, t1, t2, t3⟩ := cell_two (show w3.heap[bx]? = some (.cells #[.slice A2 (ys2).length c2', .bool false] 43 (0, 0)) from hx3)
              have hr3d := hr3.keep (Keep.refl w3).drew
              try go_wp2_with fail
              go_region_held3 (fun w' => w'.cell? ⟨bx, 0, none⟩ = some (.slice A2 (ys2).length c2') ∧ w'.cell? ⟨bx, 1, none⟩ = some (.bool false)) (first | exact ⟨t0, t1⟩)
                (first
                  | (go_at_call 27; refine (left_any b4 _ _ _ hr3d).mono ?_; rintro e w' ⟨rfl, rfl⟩)
                  | (go_at_call 28; refine (bad_any b4 _ _ _ hr3d).mono ?_; rintro e w' ⟨rfl, rfl⟩))
              go_wp2_with fail
              go_roundw
              case rel => exact ⟨j + 1, A2, c2', false, ys2, hlt, by go_num, hr3d, hx3.keep (Keep.refl w3).drew, HS2, HB2, hl2, hk3.drew⟩
              case measure => simp [intOf]; omega
            · have hg' : bad = true ∨ (ys.length : Int) < fsz size := by
                cases bad
                · exact .inr (by have : ¬ K ≤ ys.length := fun h => hg ⟨rfl, h⟩; omega)
                · exact .inl rfl
              have HG := Lib.hid hg'
              have HS2 := hsr
              have HB2 := hyb
              have hl2 := hyl
              clear hK hf hg hg'
              go_wp2_with fail
              refine (rgetr_bad A' ys.length c' bad size _ HG.out).mono ?_
              rintro e w1 ⟨rfl, hk1⟩
              have hr1 := hrda.keep hk1
              have hx1 := hxba.keep hk1
              have hb1 := hba.only (Only.of_keep (fun _ => False) hk1) (fun h => h)
              have hkk1 := hka.trans hk1
              have hs1 := hk1.size
              rw [hsa] at hs1
              obtain ⟨u0, u1, u2, u3⟩ := cell_two (show w1.heap[bx]? = _ from hx1)
              obtain ⟨d0, d1, d2, d3⟩ := hb1.cells
              simp only [Nat.zero_add] at d0 d1 d2 d3
              have nb1 : bx < w1.heap.size := by omega
              have nb2 : wr.heap.size < w1.heap.size := by omega
              have nb3 : ¬ wr.heap.size = bx := by omega
              clear hrda hxba hba hka hk1 t0 t1 t2 t3 c0 c1' c2 c3
              go_wp2_with fail
              have hxa1 : XB ((w1.setCell ⟨bx, 0, none⟩ (.slice A' (ys).length c')).setCell ⟨bx, 1, none⟩ (.bool true)) bx A' c' true ys := set_two1 _ (set_two0 _ hx1)
              have hx2 : XB (((w1.setCell ⟨bx, 0, none⟩ (.slice A' (ys).length c')).setCell ⟨bx, 1, none⟩ (.bool true)).alloc (.cells #[.slice A' (ys).length c', .bool true] 43)) bx A' c' true ys := hxa1.keep ((Keep.refl _).alloc _)
              have ho2 : Only (fun k => k = bx) w1 (((w1.setCell ⟨bx, 0, none⟩ (.slice A' (ys).length c')).setCell ⟨bx, 1, none⟩ (.bool true)).alloc (.cells #[.slice A' (ys).length c', .bool true] 43)) := (((Only.refl (fun k => k = bx) w1).setCell _ _ rfl).setCell _ _ rfl).alloc _
              have hr2 := hr1.only ho2 (fun k hk h => by omega)
              have hk2 := Only.keep hkk1 ho2 (fun k h => by omega)
              have hb2 := hb1.only ho2 nb3
              generalize ((w1.setCell ⟨bx, 0, none⟩ (.slice A' (ys).length c')).setCell ⟨bx, 1, none⟩ (.bool true)).alloc (.cells #[.slice A' (ys).length c', .bool true] 43) = w2 at *
              clear hr1 hx1 hb1 hkk1 ho2 hxa1 u0 u1 u2 u3 d0 d1 d2 d3
              refine (get_bad size b4 ys bad w2 hr2 HG.out).mono ?_
              rintro e w3 ⟨rfl, hr3, ho3⟩
              have hx3 := hx2.only ho3 (by omega)
              have hk3 := rd_keep hk2 hbw ho3
              clear hr2 hx2 hk2 ho3 hb2
              obtain ⟨t0, t1, t2, t3⟩ := cell_two (show w3.heap[bx]? = some (.cells #[.slice A' (ys).length c', .bool true] 43 (0, 0)) from hx3)
              have hr3d := hr3.keep (Keep.refl w3).drew
              try go_wp2_with fail
              go_region_held3 (fun w' => w'.cell? ⟨bx, 0, none⟩ = some (.slice A' (ys).length c') ∧ w'.cell? ⟨bx, 1, none⟩ = some (.bool true)) (first | exact ⟨t0, t1⟩)
                (first
                  | (go_at_call 27; refine (left_any b4 _ _ _ hr3d).mono ?_; rintro e w' ⟨rfl, rfl⟩)
                  | (go_at_call 28; refine (bad_any b4 _ _ _ hr3d).mono ?_; rintro e w' ⟨rfl, rfl⟩))
              go_wp2_with fail
              go_roundw
              case rel => exact ⟨j + 1, A', c', true, ys, hlt, by go_num, hr3d, hx3.keep (Keep.refl w3).drew, HS2, HB2, hl2, hk3.drew⟩
              case measure => simp [intOf]; omega
          by_cases k2 : kind = 2
          · subst k2
            obtain ⟨K, hK⟩ := Int.eq_ofNat_of_zero_le (show 0 ≤ fsz size by omega)
            by_cases hg : bad = false ∧ K ≤ ys.length
            · obtain ⟨rfl, hg⟩ := hg
              have HK := Lib.hid hK
              clear hK hf
              go_wp2_with fail
              refine (rnumr_ok A' c' ys w.heap.size size K _ hka.size (hsr.out.forth hka (Nat.le_refl _)) hyb.out HK.out hg).mono ?_
              rintro e w1 ⟨A2, c2', rfl, hs2, hk1⟩
              have HS2 := Lib.hid (hs2.back hka (Nat.le_refl _))
              have HB2 := Lib.hid (hyb.out.drop K)
              have hl2 : (ys.drop K).length ≤ 200 := by simp; omega
              clear hs2
              generalize hys2 : ys.drop K = ys2 at *
              have HY2 := Lib.hid hys2
              clear hys2
              have hr1 := hrda.keep hk1
              have hx1 := hxba.keep hk1
              have hb1 := hba.only (Only.of_keep (fun _ => False) hk1) (fun h => h)
              have hkk1 := hka.trans hk1
              have hs1 := hk1.size
              rw [hsa] at hs1
              obtain ⟨u0, u1, u2, u3⟩ := cell_two (show w1.heap[bx]? = _ from hx1)
              obtain ⟨d0, d1, d2, d3⟩ := hb1.cells
              simp only [Nat.zero_add] at d0 d1 d2 d3
              have nb1 : bx < w1.heap.size := by omega
              have nb2 : wr.heap.size < w1.heap.size := by omega
              have nb3 : ¬ wr.heap.size = bx := by omega
              clear hrda hxba hba hka hk1 t0 t1 t2 t3 c0 c1' c2 c3
              go_wp2_with fail
              have hxa1 : XB ((w1.setCell ⟨bx, 0, none⟩ (.slice A2 (ys2).length c2')).setCell ⟨bx, 1, none⟩ (.bool false)) bx A2 c2' false ys2 := set_two1 _ (set_two0 _ hx1)
              have hx2 : XB (((w1.setCell ⟨bx, 0, none⟩ (.slice A2 (ys2).length c2')).setCell ⟨bx, 1, none⟩ (.bool false)).alloc (.cells #[.slice A2 (ys2).length c2', .bool false] 43)) bx A2 c2' false ys2 := hxa1.keep ((Keep.refl _).alloc _)
              have ho2 : Only (fun k => k = bx) w1 (((w1.setCell ⟨bx, 0, none⟩ (.slice A2 (ys2).length c2')).setCell ⟨bx, 1, none⟩ (.bool false)).alloc (.cells #[.slice A2 (ys2).length c2', .bool false] 43)) := (((Only.refl (fun k => k = bx) w1).setCell _ _ rfl).setCell _ _ rfl).alloc _
              have hr2 := hr1.only ho2 (fun k hk h => by omega)
              have hk2 := Only.keep hkk1 ho2 (fun k h => by omega)
              have hb2 := hb1.only ho2 nb3
              generalize ((w1.setCell ⟨bx, 0, none⟩ (.slice A2 (ys2).length c2')).setCell ⟨bx, 1, none⟩ (.bool false)).alloc (.cells #[.slice A2 (ys2).length c2', .bool false] 43) = w2 at *
              clear hr1 hx1 hb1 hkk1 ho2 hxa1 u0 u1 u2 u3 d0 d1 d2 d3
              refine (rint_ok size K b4 ys w2 hr2 (by omega) hyb.out HK.out hg).mono ?_
              rintro e w3 ⟨rfl, hr3, ho3⟩
              rw [HY2.out] at hr3
              have hx3 := hx2.only ho3 (by omega)
              have hk3 := rd_keep hk2 hbw ho3
              clear hr2 hx2 hk2 ho3 hb2
              obtain ⟨t0, t1, t2, t3⟩ := cell_two (show w3.heap[bx]? = some (.cells #[.slice A2 (ys2).length c2', .bool false] 43 (0, 0)) from hx3)
              have hr3d := hr3.keep (Keep.refl w3).drew
              try go_wp2_with fail
              go_region_held3 (fun w' => w'.cell? ⟨bx, 0, none⟩ = some (.slice A2 (ys2).length c2') ∧ w'.cell? ⟨bx, 1, none⟩ = some (.bool false)) (first | exact ⟨t0, t1⟩)
                (first
                  | (go_at_call 27; refine (left_any b4 _ _ _ hr3d).mono ?_; rintro e w' ⟨rfl, rfl⟩)
                  | (go_at_call 28; refine (bad_any b4 _ _ _ hr3d).mono ?_; rintro e w' ⟨rfl, rfl⟩))
              go_wp2_with fail
              go_roundw
              case rel => exact ⟨j + 1, A2, c2', false, ys2, hlt, by go_num, hr3d, hx3.keep (Keep.refl w3).drew, HS2, HB2, hl2, hk3.drew⟩
              case measure => simp [intOf]; omega
            · have hg' : bad = true ∨ (ys.length : Int) < fsz size := by
                cases bad
                · exact .inr (by have : ¬ K ≤ ys.length := fun h => hg ⟨rfl, h⟩; omega)
                · exact .inl rfl
              have HG := Lib.hid hg'
              have HS2 := hsr
              have HB2 := hyb
              have hl2 := hyl
              clear hK hf hg hg'
              go_wp2_with fail
              refine (rnumr_bad A' ys.length c' bad size _ HG.out).mono ?_
              rintro e w1 ⟨rfl, hk1⟩
              have hr1 := hrda.keep hk1
              have hx1 := hxba.keep hk1
              have hb1 := hba.only (Only.of_keep (fun _ => False) hk1) (fun h => h)
              have hkk1 := hka.trans hk1
              have hs1 := hk1.size
              rw [hsa] at hs1
              obtain ⟨u0, u1, u2, u3⟩ := cell_two (show w1.heap[bx]? = _ from hx1)
              obtain ⟨d0, d1, d2, d3⟩ := hb1.cells
              simp only [Nat.zero_add] at d0 d1 d2 d3
              have nb1 : bx < w1.heap.size := by omega
              have nb2 : wr.heap.size < w1.heap.size := by omega
              have nb3 : ¬ wr.heap.size = bx := by omega
              clear hrda hxba hba hka hk1 t0 t1 t2 t3 c0 c1' c2 c3
              go_wp2_with fail
              have hxa1 : XB ((w1.setCell ⟨bx, 0, none⟩ (.slice A' (ys).length c')).setCell ⟨bx, 1, none⟩ (.bool true)) bx A' c' true ys := set_two1 _ (set_two0 _ hx1)
              have hx2 : XB (((w1.setCell ⟨bx, 0, none⟩ (.slice A' (ys).length c')).setCell ⟨bx, 1, none⟩ (.bool true)).alloc (.cells #[.slice A' (ys).length c', .bool true] 43)) bx A' c' true ys := hxa1.keep ((Keep.refl _).alloc _)
              have ho2 : Only (fun k => k = bx) w1 (((w1.setCell ⟨bx, 0, none⟩ (.slice A' (ys).length c')).setCell ⟨bx, 1, none⟩ (.bool true)).alloc (.cells #[.slice A' (ys).length c', .bool true] 43)) := (((Only.refl (fun k => k = bx) w1).setCell _ _ rfl).setCell _ _ rfl).alloc _
              have hr2 := hr1.only ho2 (fun k hk h => by omega)
              have hk2 := Only.keep hkk1 ho2 (fun k h => by omega)
              have hb2 := hb1.only ho2 nb3
              generalize ((w1.setCell ⟨bx, 0, none⟩ (.slice A' (ys).length c')).setCell ⟨bx, 1, none⟩ (.bool true)).alloc (.cells #[.slice A' (ys).length c', .bool true] 43) = w2 at *
              clear hr1 hx1 hb1 hkk1 ho2 hxa1 u0 u1 u2 u3 d0 d1 d2 d3
              refine (rint_bad size b4 ys bad w2 hr2 HG.out).mono ?_
              rintro e w3 ⟨rfl, hr3, ho3⟩
              have hx3 := hx2.only ho3 (by omega)
              have hk3 := rd_keep hk2 hbw ho3
              clear hr2 hx2 hk2 ho3 hb2
              obtain ⟨t0, t1, t2, t3⟩ := cell_two (show w3.heap[bx]? = some (.cells #[.slice A' (ys).length c', .bool true] 43 (0, 0)) from hx3)
              have hr3d := hr3.keep (Keep.refl w3).drew
              try go_wp2_with fail
              go_region_held3 (fun w' => w'.cell? ⟨bx, 0, none⟩ = some (.slice A' (ys).length c') ∧ w'.cell? ⟨bx, 1, none⟩ = some (.bool true)) (first | exact ⟨t0, t1⟩)
                (first
                  | (go_at_call 27; refine (left_any b4 _ _ _ hr3d).mono ?_; rintro e w' ⟨rfl, rfl⟩)
                  | (go_at_call 28; refine (bad_any b4 _ _ _ hr3d).mono ?_; rintro e w' ⟨rfl, rfl⟩))
              go_wp2_with fail
              go_roundw
              case rel => exact ⟨j + 1, A', c', true, ys, hlt, by go_num, hr3d, hx3.keep (Keep.refl w3).drew, HS2, HB2, hl2, hk3.drew⟩
              case measure => simp [intOf]; omega
          by_cases k3 : kind = 3
          · subst k3
            obtain ⟨K, hK⟩ := Int.eq_ofNat_of_zero_le (show 0 ≤ max size 0 by omega)
            by_cases hg : bad = false ∧ K ≤ ys.length
            · obtain ⟨rfl, hg⟩ := hg
              have HK := Lib.hid hK
              clear hK hf
              go_wp2_with fail
              refine (rrawr_ok A' c' ys w.heap.size size K _ (hsr.out.forth hka (Nat.le_refl _)) HK.out hg).mono ?_
              rintro e w1 ⟨A1', c1'', A2, c2', rfl, hs1', hs2, hk1⟩
              have HS2 := Lib.hid (hs2.back hka (Nat.le_refl _))
              have HS1 := Lib.hid (hs1'.back hka (Nat.le_refl _))
              have HB2 := Lib.hid (hyb.out.drop K)
              have hl2 : (ys.drop K).length ≤ 200 := by simp; omega
              clear hs2 hs1'
              generalize hys2 : ys.drop K = ys2 at *
              generalize hzs2 : ys.take K = zs2 at *
              have HY2 := Lib.hid hys2
              have HZ2 := Lib.hid hzs2
              clear hys2 hzs2
              have hr1 := hrda.keep hk1
              have hx1 := hxba.keep hk1
              have hb1 := hba.only (Only.of_keep (fun _ => False) hk1) (fun h => h)
              have hkk1 := hka.trans hk1
              have hs1 := hk1.size
              rw [hsa] at hs1
              obtain ⟨u0, u1, u2, u3⟩ := cell_two (show w1.heap[bx]? = _ from hx1)
              obtain ⟨d0, d1, d2, d3⟩ := hb1.cells
              simp only [Nat.zero_add] at d0 d1 d2 d3
              have nb1 : bx < w1.heap.size := by omega
              have nb2 : wr.heap.size < w1.heap.size := by omega
              have nb3 : ¬ wr.heap.size = bx := by omega
              clear hrda hxba hba hka hk1 t0 t1 t2 t3 c0 c1' c2 c3
              go_wp2_with fail
              have hxa1 : XB ((w1.setCell ⟨bx, 0, none⟩ (.slice A2 (ys2).length c2')).setCell ⟨bx, 1, none⟩ (.bool false)) bx A2 c2' false ys2 := set_two1 _ (set_two0 _ hx1)
              have hx2 : XB (((w1.setCell ⟨bx, 0, none⟩ (.slice A2 (ys2).length c2')).setCell ⟨bx, 1, none⟩ (.bool false)).alloc (.cells #[.slice A2 (ys2).length c2', .bool false] 43)) bx A2 c2' false ys2 := hxa1.keep ((Keep.refl _).alloc _)
              have ho2 : Only (fun k => k = bx) w1 (((w1.setCell ⟨bx, 0, none⟩ (.slice A2 (ys2).length c2')).setCell ⟨bx, 1, none⟩ (.bool false)).alloc (.cells #[.slice A2 (ys2).length c2', .bool false] 43)) := (((Only.refl (fun k => k = bx) w1).setCell _ _ rfl).setCell _ _ rfl).alloc _
              have hr2 := hr1.only ho2 (fun k hk h => by omega)
              have hk2 := Only.keep hkk1 ho2 (fun k h => by omega)
              have hb2 := hb1.only ho2 nb3
              generalize ((w1.setCell ⟨bx, 0, none⟩ (.slice A2 (ys2).length c2')).setCell ⟨bx, 1, none⟩ (.bool false)).alloc (.cells #[.slice A2 (ys2).length c2', .bool false] 43) = w2 at *
              clear hr1 hx1 hb1 hkk1 ho2 hxa1 u0 u1 u2 u3 d0 d1 d2 d3
              refine (rraw_ok size K b4 ys w2 hr2 (by omega) HK.out hg).mono ?_
              rintro e w3 ⟨v3, rfl, hr3o, hr3, ho3⟩
              rw [HY2.out] at hr3
              rw [HZ2.out] at hr3o
              obtain ⟨A3, c3, rfl, hl3⟩ := Lies.of_row hr3o
              have hx3 := hx2.only ho3 (by omega)
              have hk3 := rd_keep hk2 hbw ho3
              have HL3 := Lib.hid hl3
              clear hr2 hx2 hk2 ho3 hb2 hr3o hl3
              go_wp2_with fail
              refine (same_yes _ _ _ _ _ _ zs2 w3 _ _ HL3.out (HS1.out.forth hk3 (Nat.le_refl _)).1).mono ?_
              rintro e w' ⟨rfl, rfl⟩
              obtain ⟨t0, t1, t2, t3⟩ := cell_two (show w3.heap[bx]? = some (.cells #[.slice A2 (ys2).length c2', .bool false] 43 (0, 0)) from hx3)
              have hr3d := hr3.keep (Keep.refl w3).drew
              try go_wp2_with fail
              go_region_held3 (fun w' => w'.cell? ⟨bx, 0, none⟩ = some (.slice A2 (ys2).length c2') ∧ w'.cell? ⟨bx, 1, none⟩ = some (.bool false)) (first | exact ⟨t0, t1⟩)
                (first
                  | (go_at_call 27; refine (left_any b4 _ _ _ hr3d).mono ?_; rintro e w' ⟨rfl, rfl⟩)
                  | (go_at_call 28; refine (bad_any b4 _ _ _ hr3d).mono ?_; rintro e w' ⟨rfl, rfl⟩))
              go_wp2_with fail
              go_roundw
              case rel => exact ⟨j + 1, A2, c2', false, ys2, hlt, by go_num, hr3d, hx3.keep (Keep.refl w3).drew, HS2, HB2, hl2, hk3.drew⟩
              case measure => simp [intOf]; omega
            · have hg' : bad = true ∨ (ys.length : Int) < max size 0 := by
                cases bad
                · exact .inr (by have : ¬ K ≤ ys.length := fun h => hg ⟨rfl, h⟩; omega)
                · exact .inl rfl
              have HG := Lib.hid hg'
              have HS2 := hsr
              have HB2 := hyb
              have hl2 := hyl
              clear hf hg hg'
              go_wp2_with fail
              refine (rrawr_bad A' ys.length c' bad size _ HG.out).mono ?_
              rintro e w1 ⟨rfl, hk1⟩
              have hr1 := hrda.keep hk1
              have hx1 := hxba.keep hk1
              have hb1 := hba.only (Only.of_keep (fun _ => False) hk1) (fun h => h)
              have hkk1 := hka.trans hk1
              have hs1 := hk1.size
              rw [hsa] at hs1
              obtain ⟨u0, u1, u2, u3⟩ := cell_two (show w1.heap[bx]? = _ from hx1)
              obtain ⟨d0, d1, d2, d3⟩ := hb1.cells
              simp only [Nat.zero_add] at d0 d1 d2 d3
              have nb1 : bx < w1.heap.size := by omega
              have nb2 : wr.heap.size < w1.heap.size := by omega
              have nb3 : ¬ wr.heap.size = bx := by omega
              clear hrda hxba hba hka hk1 t0 t1 t2 t3 c0 c1' c2 c3
              go_wp2_with fail
              have hxa1 : XB ((w1.setCell ⟨bx, 0, none⟩ (.slice A' (ys).length c')).setCell ⟨bx, 1, none⟩ (.bool true)) bx A' c' true ys := set_two1 _ (set_two0 _ hx1)
              have hx2 : XB (((w1.setCell ⟨bx, 0, none⟩ (.slice A' (ys).length c')).setCell ⟨bx, 1, none⟩ (.bool true)).alloc (.cells #[.slice A' (ys).length c', .bool true] 43)) bx A' c' true ys := hxa1.keep ((Keep.refl _).alloc _)
              have ho2 : Only (fun k => k = bx) w1 (((w1.setCell ⟨bx, 0, none⟩ (.slice A' (ys).length c')).setCell ⟨bx, 1, none⟩ (.bool true)).alloc (.cells #[.slice A' (ys).length c', .bool true] 43)) := (((Only.refl (fun k => k = bx) w1).setCell _ _ rfl).setCell _ _ rfl).alloc _
              have hr2 := hr1.only ho2 (fun k hk h => by omega)
              have hk2 := Only.keep hkk1 ho2 (fun k h => by omega)
              have hb2 := hb1.only ho2 nb3
              generalize ((w1.setCell ⟨bx, 0, none⟩ (.slice A' (ys).length c')).setCell ⟨bx, 1, none⟩ (.bool true)).alloc (.cells #[.slice A' (ys).length c', .bool true] 43) = w2 at *
              clear hr1 hx1 hb1 hkk1 ho2 hxa1 u0 u1 u2 u3 d0 d1 d2 d3
              refine (rraw_bad size b4 ys bad w2 hr2 HG.out).mono ?_
              rintro e w3 ⟨v3, rfl, hr3o, hr3, ho3⟩
              obtain ⟨A3, c3, hv3, hl3⟩ := Lies.of_row hr3o
              rw [hv3]
              have hx3 := hx2.only ho3 (by omega)
              have hk3 := rd_keep hk2 hbw ho3
              have HL3 := Lib.hid hl3
              clear hr2 hx2 hk2 ho3 hb2 hr3o hl3 hv3
              go_wp2_with fail
              refine (same_yes _ _ _ _ _ _ [] w3 _ 0 HL3.out (Lies.nil _ _ _)).mono ?_
              rintro e w' ⟨rfl, rfl⟩
              obtain ⟨t0, t1, t2, t3⟩ := cell_two (show w3.heap[bx]? = some (.cells #[.slice A' (ys).length c', .bool true] 43 (0, 0)) from hx3)
              have hr3d := hr3.keep (Keep.refl w3).drew
              try go_wp2_with fail
              go_region_held3 (fun w' => w'.cell? ⟨bx, 0, none⟩ = some (.slice A' (ys).length c') ∧ w'.cell? ⟨bx, 1, none⟩ = some (.bool true)) (first | exact ⟨t0, t1⟩)
                (first
                  | (go_at_call 27; refine (left_any b4 _ _ _ hr3d).mono ?_; rintro e w' ⟨rfl, rfl⟩)
                  | (go_at_call 28; refine (bad_any b4 _ _ _ hr3d).mono ?_; rintro e w' ⟨rfl, rfl⟩))
              go_wp2_with fail
              go_roundw
              case rel => exact ⟨j + 1, A', c', true, ys, hlt, by go_num, hr3d, hx3.keep (Keep.refl w3).drew, HS2, HB2, hl2, hk3.drew⟩
              case measure => simp [intOf]; omega
          by_cases k4 : kind = 4
          · subst k4
            obtain ⟨K, hKY⟩ : ∃ K, K = ys.length := ⟨_, rfl⟩
            have HKY := Lib.hid hKY
            have hK : max ((ys.length : Nat) : Int) 0 = (K : Int) := by omega
            clear hKY
            by_cases hg : bad = false ∧ K ≤ ys.length
            · obtain ⟨rfl, hg⟩ := hg
              have HK := Lib.hid hK
              clear hK hf
              go_wp2_with fail
              refine (rrawr_ok A' c' ys w.heap.size ((ys.length : Nat) : Int) K _ (hsr.out.forth hka (Nat.le_refl _)) HK.out hg).mono ?_
              rintro e w1 ⟨A1', c1'', A2, c2', rfl, hs1', hs2, hk1⟩
              have HS2 := Lib.hid (hs2.back hka (Nat.le_refl _))
              have HS1 := Lib.hid (hs1'.back hka (Nat.le_refl _))
              have HB2 := Lib.hid (hyb.out.drop K)
              have hl2 : (ys.drop K).length ≤ 200 := by simp; omega
              clear hs2 hs1'
              generalize hys2 : ys.drop K = ys2 at *
              generalize hzs2 : ys.take K = zs2 at *
              have HY2 := Lib.hid hys2
              have HZ2 := Lib.hid hzs2
              clear hys2 hzs2
              have hr1 := hrda.keep hk1
              have hx1 := hxba.keep hk1
              have hb1 := hba.only (Only.of_keep (fun _ => False) hk1) (fun h => h)
              have hkk1 := hka.trans hk1
              have hs1 := hk1.size
              rw [hsa] at hs1
              obtain ⟨u0, u1, u2, u3⟩ := cell_two (show w1.heap[bx]? = _ from hx1)
              obtain ⟨d0, d1, d2, d3⟩ := hb1.cells
              simp only [Nat.zero_add] at d0 d1 d2 d3
              have nb1 : bx < w1.heap.size := by omega
              have nb2 : wr.heap.size < w1.heap.size := by omega
              have nb3 : ¬ wr.heap.size = bx := by omega
              clear hrda hxba hba hka hk1 t0 t1 t2 t3 c0 c1' c2 c3
              go_wp2_with fail
              have hxa1 : XB ((w1.setCell ⟨bx, 0, none⟩ (.slice A2 (ys2).length c2')).setCell ⟨bx, 1, none⟩ (.bool false)) bx A2 c2' false ys2 := set_two1 _ (set_two0 _ hx1)
              have hx2 : XB (((w1.setCell ⟨bx, 0, none⟩ (.slice A2 (ys2).length c2')).setCell ⟨bx, 1, none⟩ (.bool false)).alloc (.cells #[.slice A2 (ys2).length c2', .bool false] 43)) bx A2 c2' false ys2 := hxa1.keep ((Keep.refl _).alloc _)
              have ho2 : Only (fun k => k = bx) w1 (((w1.setCell ⟨bx, 0, none⟩ (.slice A2 (ys2).length c2')).setCell ⟨bx, 1, none⟩ (.bool false)).alloc (.cells #[.slice A2 (ys2).length c2', .bool false] 43)) := (((Only.refl (fun k => k = bx) w1).setCell _ _ rfl).setCell _ _ rfl).alloc _
              have hr2 := hr1.only ho2 (fun k hk h => by omega)
              have hk2 := Only.keep hkk1 ho2 (fun k h => by omega)
              have hb2 := hb1.only ho2 nb3
              generalize ((w1.setCell ⟨bx, 0, none⟩ (.slice A2 (ys2).length c2')).setCell ⟨bx, 1, none⟩ (.bool false)).alloc (.cells #[.slice A2 (ys2).length c2', .bool false] 43) = w2 at *
              clear hr1 hx1 hb1 hkk1 ho2 hxa1 u0 u1 u2 u3 d0 d1 d2 d3
              refine (rest_ok b4 ys w2 hr2 (by omega)).mono ?_
              rintro e w3 ⟨v3, rfl, hr3o, hr3, ho3⟩
              rw [show ys = zs2 from by rw [← HZ2.out, HKY.out, List.take_length]] at hr3o
              rw [show ([] : List Int) = ys2 from by rw [← HY2.out, HKY.out, List.drop_length]] at hr3
              obtain ⟨A3, c3, rfl, hl3⟩ := Lies.of_row hr3o
              have hx3 := hx2.only ho3 (by omega)
              have hk3 := rd_keep hk2 hbw ho3
              have HL3 := Lib.hid hl3
              clear hr2 hx2 hk2 ho3 hb2 hr3o hl3
              go_wp2_with fail
              refine (same_yes _ _ _ _ _ _ zs2 w3 _ _ HL3.out (HS1.out.forth hk3 (Nat.le_refl _)).1).mono ?_
              rintro e w' ⟨rfl, rfl⟩
              obtain ⟨t0, t1, t2, t3⟩ := cell_two (show w3.heap[bx]? = some (.cells #[.slice A2 (ys2).length c2', .bool false] 43 (0, 0)) from hx3)
              have hr3d := hr3.keep (Keep.refl w3).drew
              try go_wp2_with fail
              go_region_held3 (fun w' => w'.cell? ⟨bx, 0, none⟩ = some (.slice A2 (ys2).length c2') ∧ w'.cell? ⟨bx, 1, none⟩ = some (.bool false)) (first | exact ⟨t0, t1⟩)
                (first
                  | (go_at_call 27; refine (left_any b4 _ _ _ hr3d).mono ?_; rintro e w' ⟨rfl, rfl⟩)
                  | (go_at_call 28; refine (bad_any b4 _ _ _ hr3d).mono ?_; rintro e w' ⟨rfl, rfl⟩))
              go_wp2_with fail
              go_roundw
              case rel => exact ⟨j + 1, A2, c2', false, ys2, hlt, by go_num, hr3d, hx3.keep (Keep.refl w3).drew, HS2, HB2, hl2, hk3.drew⟩
              case measure => simp [intOf]; omega
            · have hg' : bad = true ∨ (ys.length : Int) < max ((ys.length : Nat) : Int) 0 := by
                cases bad
                · exact .inr (by have : ¬ K ≤ ys.length := fun h => hg ⟨rfl, h⟩; omega)
                · exact .inl rfl
              have HG := Lib.hid hg'
              have HS2 := hsr
              have HB2 := hyb
              have hl2 := hyl
              clear hf hg hg'
              go_wp2_with fail
              refine (rrawr_bad A' ys.length c' bad ((ys.length : Nat) : Int) _ HG.out).mono ?_
              rintro e w1 ⟨rfl, hk1⟩
              have hr1 := hrda.keep hk1
              have hx1 := hxba.keep hk1
              have hb1 := hba.only (Only.of_keep (fun _ => False) hk1) (fun h => h)
              have hkk1 := hka.trans hk1
              have hs1 := hk1.size
              rw [hsa] at hs1
              obtain ⟨u0, u1, u2, u3⟩ := cell_two (show w1.heap[bx]? = _ from hx1)
              obtain ⟨d0, d1, d2, d3⟩ := hb1.cells
              simp only [Nat.zero_add] at d0 d1 d2 d3
              have nb1 : bx < w1.heap.size := by omega
              have nb2 : wr.heap.size < w1.heap.size := by omega
              have nb3 : ¬ wr.heap.size = bx := by omega
              clear hrda hxba hba hka hk1 t0 t1 t2 t3 c0 c1' c2 c3
              go_wp2_with fail
              have hxa1 : XB ((w1.setCell ⟨bx, 0, none⟩ (.slice A' (ys).length c')).setCell ⟨bx, 1, none⟩ (.bool true)) bx A' c' true ys := set_two1 _ (set_two0 _ hx1)
              have hx2 : XB (((w1.setCell ⟨bx, 0, none⟩ (.slice A' (ys).length c')).setCell ⟨bx, 1, none⟩ (.bool true)).alloc (.cells #[.slice A' (ys).length c', .bool true] 43)) bx A' c' true ys := hxa1.keep ((Keep.refl _).alloc _)
              have ho2 : Only (fun k => k = bx) w1 (((w1.setCell ⟨bx, 0, none⟩ (.slice A' (ys).length c')).setCell ⟨bx, 1, none⟩ (.bool true)).alloc (.cells #[.slice A' (ys).length c', .bool true] 43)) := (((Only.refl (fun k => k = bx) w1).setCell _ _ rfl).setCell _ _ rfl).alloc _
              have hr2 := hr1.only ho2 (fun k hk h => by omega)
              have hk2 := Only.keep hkk1 ho2 (fun k h => by omega)
              have hb2 := hb1.only ho2 nb3
              generalize ((w1.setCell ⟨bx, 0, none⟩ (.slice A' (ys).length c')).setCell ⟨bx, 1, none⟩ (.bool true)).alloc (.cells #[.slice A' (ys).length c', .bool true] 43) = w2 at *
              clear hr1 hx1 hb1 hkk1 ho2 hxa1 u0 u1 u2 u3 d0 d1 d2 d3
              obtain rfl : bad = true := by rcases HG.out with h | h; exact h; omega
              refine (rest_bad b4 ys w2 hr2).mono ?_
              rintro e w3 ⟨v3, rfl, hr3o, hr3, ho3⟩
              obtain ⟨A3, c3, hv3, hl3⟩ := Lies.of_row hr3o
              rw [hv3]
              have hx3 := hx2.only ho3 (by omega)
              have hk3 := rd_keep hk2 hbw ho3
              have HL3 := Lib.hid hl3
              clear hr2 hx2 hk2 ho3 hb2 hr3o hl3 hv3
              go_wp2_with fail
              refine (same_yes _ _ _ _ _ _ [] w3 _ 0 HL3.out (Lies.nil _ _ _)).mono ?_
              rintro e w' ⟨rfl, rfl⟩
              obtain ⟨t0, t1, t2, t3⟩ := cell_two (show w3.heap[bx]? = some (.cells #[.slice A' (ys).length c', .bool true] 43 (0, 0)) from hx3)
              have hr3d := hr3.keep (Keep.refl w3).drew
              try go_wp2_with fail
              go_region_held3 (fun w' => w'.cell? ⟨bx, 0, none⟩ = some (.slice A' (ys).length c') ∧ w'.cell? ⟨bx, 1, none⟩ = some (.bool true)) (first | exact ⟨t0, t1⟩)
                (first
                  | (go_at_call 27; refine (left_any b4 _ _ _ hr3d).mono ?_; rintro e w' ⟨rfl, rfl⟩)
                  | (go_at_call 28; refine (bad_any b4 _ _ _ hr3d).mono ?_; rintro e w' ⟨rfl, rfl⟩))
              go_wp2_with fail
              go_roundw
              case rel => exact ⟨j + 1, A', c', true, ys, hlt, by go_num, hr3d, hx3.keep (Keep.refl w3).drew, HS2, HB2, hl2, hk3.drew⟩
              case measure => simp [intOf]; omega
          · have hr3 := hrda
            have hx3 := hxba
            have hk3 := hka
            have HS2 := hsr
            have HB2 := hyb
            have hl2 := hyl
            clear hrda hxba hka hba
            go_wp2_with fail
            generalize wr.alloc (.cells #[.int .i64 kind, .int .i64 size, .int .i64 n, .slice ba bl bc] 29) = w3 at *
            obtain ⟨t0, t1, t2, t3⟩ := cell_two (show w3.heap[bx]? = some (.cells #[.slice A' (ys).length c', .bool bad] 43 (0, 0)) from hx3)
            have hr3d := hr3.keep (Keep.refl w3).drew
            try go_wp2_with fail
            go_region_held3 (fun w' => w'.cell? ⟨bx, 0, none⟩ = some (.slice A' (ys).length c') ∧ w'.cell? ⟨bx, 1, none⟩ = some (.bool bad)) (first | exact ⟨t0, t1⟩)
              (first
                | (go_at_call 27; refine (left_any b4 _ _ _ hr3d).mono ?_; rintro e w' ⟨rfl, rfl⟩)
                | (go_at_call 28; refine (bad_any b4 _ _ _ hr3d).mono ?_; rintro e w' ⟨rfl, rfl⟩))
            go_wp2_with fail
            go_roundw
            case rel => exact ⟨j + 1, A', c', bad, ys, hlt, by go_num, hr3d, hx3.keep (Keep.refl w3).drew, HS2, HB2, hl2, hk3.drew⟩
            case measure => simp [intOf]; omega
        · go_wp2
          go_ret
          exact ⟨rfl, hkr⟩

theorem reads_long (A : Option Addr) (n c : Nat) (A2 : Option Addr) (m c2 : Nat) (w : World) (h : decide (200 < (n : Int)) = true ∨ (decide (200 < (n : Int)) = false ∧ decide (60 < (m : Int)) = true)) :
    Calls Try.prog 4 #[.slice A n c, .slice A2 m c2] w fun e w' => e = .returned (.bool true) ∧ Keep w w' := by
  rcases h with h | ⟨h, h2⟩
  all_goals
    go_enter Try.func4, Try.ntmps4
    go_wp2_with (go_at_call 9; refine (alive_any _).mono ?_; rintro e w0 ⟨rfl, hk0⟩)
    go_ret
    exact ⟨rfl, hk0⟩
end Go.Proofs.Ytoilbmhijjkkaab
