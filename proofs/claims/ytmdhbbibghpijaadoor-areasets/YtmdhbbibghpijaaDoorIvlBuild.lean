/- The document's own Build and Make of layer 6. -/
import Derived.Test.YtmdhbbibghpijaaDoorIvlCuts
namespace Go.Proofs.YtmdhbbibghpijaaDoor
open Go.RowKit

theorem lss_two {w : World} {A B : Option Addr} {na ca nb cb : Nat} {za zb : List Sp} (ha : Arg w A na ca za) (hb : Arg w B nb cb zb) : Lss (w.alloc (.cells #[.slice A na ca, .slice B nb cb] 32)) (some ⟨w.heap.size, 0, none⟩) [za, zb] := by
  have hc := World.alloc_heap_new w (.cells #[.slice A na ca, .slice B nb cb] 32)
  have hk := (Keep.refl w).alloc (.cells #[.slice A na ca, .slice B nb cb] 32)
  have hs : w.heap.size < (w.alloc (.cells #[.slice A na ca, .slice B nb cb] 32)).heap.size := by simp
  have la := ha.len
  have lb := hb.len
  generalize w.alloc (.cells #[.slice A na ca, .slice B nb cb] 32) = V at *
  subst la lb
  intro i zs hi
  rcases i with _ | _ | i
  · simp at hi; subst hi
    exact ⟨_, 0, A, ca, rfl, hs, by simp [World.cell?, hc], ha.keep hk⟩
  · simp at hi; subst hi
    exact ⟨_, 0, B, cb, rfl, hs, by simp [World.cell?, hc], hb.keep hk⟩
  · simp at hi
theorem nums_cell {w : World} {A : Option Addr} {n c : Nat} {ns : List Int} (h : Nums w A n c ns) {j : Nat} {x : Int} (hx : ns[j]? = some x) : ∃ b off, A = some ⟨b, off, none⟩ ∧ b < w.heap.size ∧ w.cell? ⟨b, off + j, none⟩ = some (.int .i64 x) := by
  have hl := h.len
  have hj := (List.getElem?_eq_some_iff.1 hx).1
  obtain ⟨b, off, e, hb, hc⟩ := h.lies.2 (by omega)
  exact ⟨b, off, e, hb, by rw [hc j (by omega), vals_gi hx]⟩
/-- Between two rounds: the set of the keys that are asked for, up to the j-th cut. -/
def BldI (w : World) (base : Nat) (kind : Int) (za zb : List Sp) (ns : List Int) (j : Nat) (A : Option Addr) (n c : Nat) (W : World) : Prop :=
  ∃ zs x, ns[j]? = some x ∧ Own W base A n c zs ∧ IsSet zs (uptoK (askB kind za zb) x) ∧ n ≤ j ∧ Only (fun q => base ≤ q) w W
/-- What Build answers: the set of the keys that are asked for, in a row of its own. -/
def BuildPost (w : World) (kind : Int) (za zb : List Sp) (N : Nat) (e : Ending) (w' : World) : Prop :=
  ∃ A n c zs, e = .returned (.slice A n c) ∧ Own w' w.heap.size A n c zs ∧ IsSet zs (fun k => askB kind za zb k = true) ∧ n ≤ N ∧ Keep w w'
theorem up_first {ns : List Int} {x : Int} (h : Up ns) (hb : ∀ z ∈ ns, 0 ≤ z ∧ z ≤ 4294967296) (h0 : 0 ∈ ns) (hx : ns[0]? = some x) : x = 0 := by
  obtain ⟨i, hi⟩ := List.getElem?_of_mem h0
  by_cases he : i = 0
  · subst he; rw [hx] at hi; exact Option.some.inj hi
  · have := up_lt h hx hi (by omega)
    have := hb x (List.mem_of_getElem? hx)
    omega
theorem up_last {ns : List Int} {x : Int} {j : Nat} (h : Up ns) (hb : ∀ z ∈ ns, 0 ≤ z ∧ z ≤ 4294967296) (h0 : 4294967296 ∈ ns) (hj : j + 1 = ns.length) (hx : ns[j]? = some x) : x = 4294967296 := by
  obtain ⟨i, hi⟩ := List.getElem?_of_mem h0
  have hl := (List.getElem?_eq_some_iff.1 hi).1
  by_cases he : i = j
  · subst he; rw [hx] at hi; exact Option.some.inj hi
  · have := up_lt h hi hx (by omega)
    have := hb x (List.mem_of_getElem? hx)
    omega
theorem uptoK_none {p : Int → Bool} (h : ∀ k, p k = true → 0 ≤ k) (k : Int) : ¬ uptoK p 0 k := fun ⟨h1, h2⟩ => by have := h k h1; omega
theorem askB_key {kind : Int} {za zb : List Sp} {k : Int} (h : askB kind za zb k = true) : 0 ≤ k ∧ k ≤ 4294967295 := by
  unfold askB keyB at h
  simp at h
  exact h.1

theorem grow_any {w : World} {base n c : Nat} {A : Option Addr} {zs : List Sp} {p : Int → Prop} {x y : Int} (h : Own w base A n c zs) (hb : base ≤ w.heap.size) (hs : IsSet zs p) (hp : ∀ k, p k → k < x) (hxy : x < y) (hx : 0 ≤ x) (hy : y ≤ 4294967296) (hn : n ≤ 100000) :
    Calls Tryd.prog 57 #[.slice A n c, .int .i64 x, .int .i64 y] w (GrowPost w base n p x y) := by
  rcases snoc_cases zs with rfl | ⟨q, t, rfl⟩
  · exact grow_end h hb hs hp hxy hx hy hn (fun q t e => by simp at e)
  · by_cases ht : t.hi + 1 = x
    · have hl := (own_prs h).1.len
      obtain rfl : n = q.length + 1 := by simpa using hl.symm
      exact grow_join h hb hs hxy hx hy (by omega) ht
    · refine grow_end h hb hs hp hxy hx hy hn (fun q' t' e => ?_)
      obtain ⟨-, e2⟩ := List.append_inj' e rfl
      simp at e2
      rw [← e2]
      exact ht
theorem rhas_v {w : World} {A : Option Addr} {n c : Nat} {zs : List Sp} {k : Int} (v : Bool) (h : Arg w A n c zs) (hn : n ≤ 40000) (hv : hasB zs k = v) :
    Calls Tryd.prog 43 #[.slice A n c, .int .i64 k] w fun e w' => e = .returned (.bool v) ∧ w = w' := hv ▸ rhas_any A n c zs k w h hn
def GrowR (w : World) (base n : Nat) (p : Int → Prop) (x y : Int) (v : Value) (w' : World) : Prop :=
  ∃ A' n' c' r', v = .slice A' n' c' ∧ Own w' base A' n' c' r' ∧ IsSet r' (grw p x y) ∧ n' ≤ n + 1 ∧ Only (fun q => base ≤ q) w w'

set_option maxRecDepth 100000 in
set_option maxHeartbeats 8000000 in
theorem build_any {w : World} {A B : Option Addr} {na ca nb cb : Nat} {za zb : List Sp} (kind : Int) (ha : Arg w A na ca za) (hb : Arg w B nb cb zb) (hn : na ≤ 20000) (hm : nb ≤ 20000) (hkd : kind = 0 ∨ kind = 1 ∨ kind = 2 ∨ kind = 3) :
    Calls Tryd.prog 30 #[.slice A na ca, .slice B nb cb, .int .i64 kind] w (BuildPost w kind za zb (1 + 2 * (na + nb))) := by
  have hk0 := (Keep.refl w).alloc (.cells #[.slice A na ca, .slice B nb cb] 32)
  have HC := Lib.hid (cuts_any (c := 2) (lss_two ha hb) rfl (by simp) (by have := ha.len; have := hb.len; simp; omega))
  have HA := Lib.hid ha
  have HB := Lib.hid hb
  have HK0 := Lib.hid hk0
  have hla := ha.len
  have hlb := hb.len
  have HLN := Lib.hid (show ([za, zb].flatten).length = na + nb by simp; omega)
  clear ha hb hk0 hla hlb
  go_enter Tryd.func30, Tryd.ntmps30
  go_wp2_with fail
  go_at_call 56
  refine HC.out.mono ?_
  rintro e w1 ⟨Ac, nc, cc, rfl, ⟨ns, c1, c2, c3, c4, ⟨c5, c6⟩, c7, c8⟩, hk1⟩
  have hk01 := HK0.out.trans hk1
  have hko := (Keep.refl w1).alloc (.cells #[] 37)
  have ho0 := World.ownsRow_made (base := w1.heap.size) (e := 37) (size := 2) w1 #[] 0 (by simp) (by simp) rfl
  have ⟨ca', cb'⟩ : CutOf za ns ∧ CutOf zb ns := ⟨fun s hs => c7 s (by simp [hs]), fun s hs => c7 s (by simp [hs])⟩
  have HNS := Lib.hid (And.intro c2 (And.intro c4 (And.intro ca' cb')))
  have HNUM := Lib.hid c1
  have hlen := c1.len
  have HLEN := Lib.hid hlen
  have hcb : nc ≤ 2 + 2 * (na + nb) := by rw [HLN.out] at c8; exact c8
  have HA1 := Lib.hid (HA.out.keep hk01)
  have HB1 := Lib.hid (HB.out.keep hk01)
  have HKW1 := Lib.hid hko
  have HK01 := Lib.hid hk01
  obtain ⟨x0, hx0⟩ : ∃ x, ns[0]? = some x := ⟨_, List.getElem?_eq_getElem (by omega)⟩
  obtain rfl := up_first c2 c4 c5 hx0
  have HL6 := Lib.hid c6
  have h0 : BldI (w1.alloc (.cells #[] 37)) w1.heap.size kind za zb ns 0 (some ⟨w1.heap.size, 0, none⟩) 0 0 (w1.alloc (.cells #[] 37)) :=
    ⟨[], 0, hx0, ho0, ⟨Rt.nil, fun k => ⟨fun h => absurd h (mem_nil k), fun h => absurd h (uptoK_none (fun k h => (askB_key h).1) k)⟩, by simp⟩, Nat.le_refl _, Only.refl _ _⟩
  have H0 := Lib.hid h0
  have hs1 : w1.heap.size ≤ (w1.alloc (.cells #[] 37)).heap.size := by simp
  have HSZ := Lib.hid (And.intro hk01.size hs1)
  clear HC HA HB HK0 HLN c1 c2 c4 c5 c6 c7 c8 hk1 hk01 hko ho0 ca' cb' hlen h0 hx0 hs1
  go_wp2_with fail
  generalize w1.alloc (.cells #[] 37) = W1 at *
  have hni : (nc : Int) ≤ 200000 := by omega
  go_loopw [8, 9] (fun ov i wr => ∃ (j : Nat) (A' : Option Addr) (n' c' : Nat), i = .int .i64 j ∧ ov = .slice A' n' c' ∧ j + 1 ≤ nc ∧ Hid (BldI W1 w1.heap.size kind za zb ns j A' n' c' wr)) (fun _ i _ => nc - (intOf i).toNat)
  case atStart => exact ⟨0, _, _, _, rfl, rfl, by omega, H0⟩
  case round =>
    obtain ⟨j, A1, n1, d1, rfl, rfl, hj, HI⟩ := hrel
    clear H0
    obtain ⟨r, x, hx, ho, hs, hle, hon⟩ := HI.out
    clear HI
    have hkw : Keep w1 wr := Only.keep HKW1.out hon (fun k hk => by omega)
    have HKW := Lib.hid hkw
    by_cases hlt : j + 1 < nc
    · obtain ⟨y, hy⟩ : ∃ y, ns[j + 1]? = some y := ⟨_, List.getElem?_eq_getElem (by rw [HLEN.out]; exact hlt)⟩
      obtain ⟨b, off, e, hb, d0⟩ := nums_cell HNUM.out hx
      subst e
      obtain ⟨b', off', e, -, d1'⟩ := nums_cell HNUM.out hy
      cases e
      obtain ⟨J, hJ⟩ : ∃ J, J = j + 1 := ⟨_, rfl⟩
      have HJ := Lib.hid (show IntKind.i64.wrap ((j : Int) + 1) = (J : Int) ∧ (J : Int) < (nc : Int) from ⟨by rw [IntKind.wrap_i64]; omega, by omega⟩)
      have HBOX := Lib.hid (show ∀ X, Keep w1 X → X.cell? ⟨b, off + j, none⟩ = some (.int .i64 x) ∧ X.cell? ⟨b, off + J, none⟩ = some (.int .i64 y) from fun X hX => ⟨(hX.cell (p := ⟨b, off + j, none⟩) hb).trans d0, by rw [hJ]; exact (hX.cell (p := ⟨b, off + (j + 1), none⟩) hb).trans d1'⟩)
      have hxy := up_lt HNS.out.1 hx hy (by omega)
      have hx0 := (HNS.out.2.1 x (List.mem_of_getElem? hx)).1
      have hy1 := (HNS.out.2.1 y (List.mem_of_getElem? hy)).2
      have HXY := Lib.hid (And.intro hx (And.intro hy (And.intro hxy (And.intro hx0 hy1))))
      have HA := Lib.hid (HA1.out.keep hkw)
      have HB := Lib.hid (HB1.out.keep hkw)
      have HR := Lib.hid (And.intro ho hs)
      have HON := Lib.hid hon
      have hbz : w1.heap.size ≤ wr.heap.size := hkw.size
      have HGR := Lib.hid (grow_any (ownsRow_only ho (Only.of_keep (fun _ => False) (Keep.refl wr).drew) (fun _ _ h => h)) hbz hs (fun k h => h.2) hxy hx0 hy1 (by omega))
      have hji : (j : Int) < (nc : Int) := by omega
      have hji1 : (j : Int) + 1 < (nc : Int) := by omega
      obtain ⟨xa, hxa⟩ : ∃ v, hasB za x = v := ⟨_, rfl⟩
      obtain ⟨xb, hxb⟩ : ∃ v, hasB zb x = v := ⟨_, rfl⟩
      have HXA := Lib.hid hxa
      have HXB := Lib.hid hxb
      clear hx hy hJ d0 d1' hb hxy hx0 hy1 ho hs hon hxa hxb hkw HA1 HB1
      have c0 := (HBOX.out wr HKW.out).1
      rcases hkd with rfl | rfl | rfl | rfl
      · cases xa
        · cases xb
          · go_wp2_with fail
            go_at_call 43
            refine (rhas_v false HA.out (by omega) HXA.out).mono ?_
            rintro e wx ⟨rfl, rfl⟩
            go_wp2_with fail
            go_at_call 43
            refine (rhas_v false HB.out (by omega) HXB.out).mono ?_
            rintro e wx ⟨rfl, rfl⟩
            go_wp2_with fail
            have HI2 := Lib.hid (show BldI W1 w1.heap.size 0 za zb ns (j + 1) A1 n1 d1 wr from ⟨r, y, HXY.out.2.1, HR.out.1, HR.out.2.congr (uptoK_no HNS.out.2.2.1 HNS.out.2.2.2 (up_between HNS.out.1 HXY.out.1 HXY.out.2.1) HXY.out.2.2.1 (by rw [HXA.out, HXB.out]; rfl)), by omega, HON.out⟩)
            clear c0
            go_roundw
            case rel => exact ⟨j + 1, _, _, _, by go_num, rfl, by omega, HI2⟩
            case measure => simp [intOf]; omega
          · go_wp2_with fail
            go_at_call 43
            refine (rhas_v false HA.out (by omega) HXA.out).mono ?_
            rintro e wx ⟨rfl, rfl⟩
            go_wp2_with fail
            go_at_call 43
            refine (rhas_v true HB.out (by omega) HXB.out).mono ?_
            rintro e wx ⟨rfl, rfl⟩
            go_wp2_with fail
            clear c0
            obtain ⟨hwj, hjn1⟩ := HJ.out
            refine seq_region (S := fun w' => Keep w1 w') [⟨0, 256, 9444732965739290427392⟩, ⟨0, 128, 18889465931478580854784⟩, ⟨0, 512, 37778931862957161709568⟩, ⟨6, 56668397794435742564352, 75557863725914323419136⟩, ⟨8, 75557863725914323419136, 151115727451828646838272⟩, ⟨0, 128, 302231454903657293676544⟩, ⟨0, 512, 604462909807314587353088⟩, ⟨64, 604462909807314587353088, 1208925819614629174706176⟩, ⟨160, 1511157274518286468382720, 2417851639229258349412352⟩, ⟨256, 2417851639229258349412352, 4835703278458516698824704⟩, ⟨529, 4996263738876084636090368, 9671406556917033397649408⟩, ⟨2047, 9671406556917033397649408, 256⟩] [(0, false), (1, false), (2, false), (3, false), (4, false), (5, false), (6, false), (7, false), (8, false), (9, false), (10, true), (11, false)] rfl (by kernel_rfl) (by kernel_rfl) (fun _ _ d _ _ h => by cases d <;> exact h) HKW.out.drew ?_
            simp only [rowsOf, rowAt, gslot, List.map_cons, List.map_nil, List.getElem?_toArray, List.getElem?_cons_zero, List.getElem?_cons_succ]
            repeat (first
              | (refine seq_take (v := ?_) (a' := ?_) (by rfl) ?_ ?_ ?_
                 rotate_left 2
                 · (intro w hSw; have hcs := HBOX.out w hSw; clear hSw; go_split_ands; go_simp; with_reducible rfl)
                 · (simp only [Act.put, List.setIfInBounds_toArray, List.set_cons_zero, List.set_cons_succ]; with_reducible rfl))
              | (refine seq_skip (a' := ?_) hKc (by rfl) ?_ ?_
                 rotate_left
                 · (simp only [Act.put, List.setIfInBounds_toArray, List.set_cons_zero, List.set_cons_succ]; with_reducible rfl)))
            refine seq_callx (f := 57) (args := ?_) (GrowR wr.drew w1.heap.size n1 (uptoK (askB 0 za zb) x) x y) (by rfl) (by rfl) (by rfl) Tryd.call57 ?_ ?_ ?_
            rotate_left 1
            · (go_simp; with_reducible rfl)
            · (refine HGR.out.mono ?_
               rintro e w' ⟨A', n', c', r', rfl, ho, hs', hle', hon⟩
               exact ⟨_, rfl, Only.keep HKW.out.drew hon (fun k hk => by omega), A', n', c', r', rfl, ho, hs', hle', hon⟩)
            rintro v w3 hK3 ⟨A3, n3, c3, r3, rfl, ho3, hs3, hle3, hon3⟩
            simp only [Act.put, List.setIfInBounds_toArray, List.set_cons_zero, List.set_cons_succ]
            have hKc := hK3
            repeat (first
              | (refine seq_take (v := ?_) (a' := ?_) (by rfl) ?_ ?_ ?_
                 rotate_left 2
                 · (intro w hSw; have hcs := HBOX.out w hSw; clear hSw; go_split_ands; go_simp; with_reducible rfl)
                 · (simp only [Act.put, List.setIfInBounds_toArray, List.set_cons_zero, List.set_cons_succ]; with_reducible rfl))
              | (refine seq_skip (a' := ?_) hKc (by rfl) ?_ ?_
                 rotate_left
                 · (simp only [Act.put, List.setIfInBounds_toArray, List.set_cons_zero, List.set_cons_succ]; with_reducible rfl)))
            refine seq_nil ?_
            have HI2 := Lib.hid (show BldI W1 w1.heap.size 0 za zb ns (j + 1) A3 n3 c3 w3 from ⟨r3, y, HXY.out.2.1, ho3, hs3.congr (uptoK_yes HNS.out.2.2.1 HNS.out.2.2.2 (up_between HNS.out.1 HXY.out.1 HXY.out.2.1) HXY.out.2.2.1 HXY.out.2.2.2.1 HXY.out.2.2.2.2 (by rw [HXA.out, HXB.out]; rfl)), by omega, (HON.out.trans (Only.of_keep _ (Keep.refl wr).drew) (fun _ _ h => h)).trans hon3 (fun _ _ h => h)⟩)
            clear hKc hK3 ho3 hs3 hon3 hwj hjn1
            go_wp2_with fail
            go_roundw
            case rel => exact ⟨j + 1, _, _, _, by go_num, rfl, by omega, HI2⟩
            case measure => simp [intOf]; omega
        · cases xb
          · go_wp2_with fail
            go_at_call 43
            refine (rhas_v true HA.out (by omega) HXA.out).mono ?_
            rintro e wx ⟨rfl, rfl⟩
            go_wp2_with fail
            go_at_call 43
            refine (rhas_v false HB.out (by omega) HXB.out).mono ?_
            rintro e wx ⟨rfl, rfl⟩
            go_wp2_with fail
            clear c0
            obtain ⟨hwj, hjn1⟩ := HJ.out
            refine seq_region (S := fun w' => Keep w1 w') [⟨0, 256, 9444732965739290427392⟩, ⟨0, 128, 18889465931478580854784⟩, ⟨0, 512, 37778931862957161709568⟩, ⟨6, 56668397794435742564352, 75557863725914323419136⟩, ⟨8, 75557863725914323419136, 151115727451828646838272⟩, ⟨0, 128, 302231454903657293676544⟩, ⟨0, 512, 604462909807314587353088⟩, ⟨64, 604462909807314587353088, 1208925819614629174706176⟩, ⟨160, 1511157274518286468382720, 2417851639229258349412352⟩, ⟨256, 2417851639229258349412352, 4835703278458516698824704⟩, ⟨529, 4996263738876084636090368, 9671406556917033397649408⟩, ⟨2047, 9671406556917033397649408, 256⟩] [(0, false), (1, false), (2, false), (3, false), (4, false), (5, false), (6, false), (7, false), (8, false), (9, false), (10, true), (11, false)] rfl (by kernel_rfl) (by kernel_rfl) (fun _ _ d _ _ h => by cases d <;> exact h) HKW.out.drew ?_
            simp only [rowsOf, rowAt, gslot, List.map_cons, List.map_nil, List.getElem?_toArray, List.getElem?_cons_zero, List.getElem?_cons_succ]
            repeat (first
              | (refine seq_take (v := ?_) (a' := ?_) (by rfl) ?_ ?_ ?_
                 rotate_left 2
                 · (intro w hSw; have hcs := HBOX.out w hSw; clear hSw; go_split_ands; go_simp; with_reducible rfl)
                 · (simp only [Act.put, List.setIfInBounds_toArray, List.set_cons_zero, List.set_cons_succ]; with_reducible rfl))
              | (refine seq_skip (a' := ?_) hKc (by rfl) ?_ ?_
                 rotate_left
                 · (simp only [Act.put, List.setIfInBounds_toArray, List.set_cons_zero, List.set_cons_succ]; with_reducible rfl)))
            refine seq_callx (f := 57) (args := ?_) (GrowR wr.drew w1.heap.size n1 (uptoK (askB 0 za zb) x) x y) (by rfl) (by rfl) (by rfl) Tryd.call57 ?_ ?_ ?_
            rotate_left 1
            · (go_simp; with_reducible rfl)
            · (refine HGR.out.mono ?_
               rintro e w' ⟨A', n', c', r', rfl, ho, hs', hle', hon⟩
               exact ⟨_, rfl, Only.keep HKW.out.drew hon (fun k hk => by omega), A', n', c', r', rfl, ho, hs', hle', hon⟩)
            rintro v w3 hK3 ⟨A3, n3, c3, r3, rfl, ho3, hs3, hle3, hon3⟩
            simp only [Act.put, List.setIfInBounds_toArray, List.set_cons_zero, List.set_cons_succ]
            have hKc := hK3
            repeat (first
              | (refine seq_take (v := ?_) (a' := ?_) (by rfl) ?_ ?_ ?_
                 rotate_left 2
                 · (intro w hSw; have hcs := HBOX.out w hSw; clear hSw; go_split_ands; go_simp; with_reducible rfl)
                 · (simp only [Act.put, List.setIfInBounds_toArray, List.set_cons_zero, List.set_cons_succ]; with_reducible rfl))
              | (refine seq_skip (a' := ?_) hKc (by rfl) ?_ ?_
                 rotate_left
                 · (simp only [Act.put, List.setIfInBounds_toArray, List.set_cons_zero, List.set_cons_succ]; with_reducible rfl)))
            refine seq_nil ?_
            have HI2 := Lib.hid (show BldI W1 w1.heap.size 0 za zb ns (j + 1) A3 n3 c3 w3 from ⟨r3, y, HXY.out.2.1, ho3, hs3.congr (uptoK_yes HNS.out.2.2.1 HNS.out.2.2.2 (up_between HNS.out.1 HXY.out.1 HXY.out.2.1) HXY.out.2.2.1 HXY.out.2.2.2.1 HXY.out.2.2.2.2 (by rw [HXA.out, HXB.out]; rfl)), by omega, (HON.out.trans (Only.of_keep _ (Keep.refl wr).drew) (fun _ _ h => h)).trans hon3 (fun _ _ h => h)⟩)
            clear hKc hK3 ho3 hs3 hon3 hwj hjn1
            go_wp2_with fail
            go_roundw
            case rel => exact ⟨j + 1, _, _, _, by go_num, rfl, by omega, HI2⟩
            case measure => simp [intOf]; omega
          · go_wp2_with fail
            go_at_call 43
            refine (rhas_v true HA.out (by omega) HXA.out).mono ?_
            rintro e wx ⟨rfl, rfl⟩
            go_wp2_with fail
            go_at_call 43
            refine (rhas_v true HB.out (by omega) HXB.out).mono ?_
            rintro e wx ⟨rfl, rfl⟩
            go_wp2_with fail
            clear c0
            obtain ⟨hwj, hjn1⟩ := HJ.out
            refine seq_region (S := fun w' => Keep w1 w') [⟨0, 256, 9444732965739290427392⟩, ⟨0, 128, 18889465931478580854784⟩, ⟨0, 512, 37778931862957161709568⟩, ⟨6, 56668397794435742564352, 75557863725914323419136⟩, ⟨8, 75557863725914323419136, 151115727451828646838272⟩, ⟨0, 128, 302231454903657293676544⟩, ⟨0, 512, 604462909807314587353088⟩, ⟨64, 604462909807314587353088, 1208925819614629174706176⟩, ⟨160, 1511157274518286468382720, 2417851639229258349412352⟩, ⟨256, 2417851639229258349412352, 4835703278458516698824704⟩, ⟨529, 4996263738876084636090368, 9671406556917033397649408⟩, ⟨2047, 9671406556917033397649408, 256⟩] [(0, false), (1, false), (2, false), (3, false), (4, false), (5, false), (6, false), (7, false), (8, false), (9, false), (10, true), (11, false)] rfl (by kernel_rfl) (by kernel_rfl) (fun _ _ d _ _ h => by cases d <;> exact h) HKW.out.drew ?_
            simp only [rowsOf, rowAt, gslot, List.map_cons, List.map_nil, List.getElem?_toArray, List.getElem?_cons_zero, List.getElem?_cons_succ]
            repeat (first
              | (refine seq_take (v := ?_) (a' := ?_) (by rfl) ?_ ?_ ?_
                 rotate_left 2
                 · (intro w hSw; have hcs := HBOX.out w hSw; clear hSw; go_split_ands; go_simp; with_reducible rfl)
                 · (simp only [Act.put, List.setIfInBounds_toArray, List.set_cons_zero, List.set_cons_succ]; with_reducible rfl))
              | (refine seq_skip (a' := ?_) hKc (by rfl) ?_ ?_
                 rotate_left
                 · (simp only [Act.put, List.setIfInBounds_toArray, List.set_cons_zero, List.set_cons_succ]; with_reducible rfl)))
            refine seq_callx (f := 57) (args := ?_) (GrowR wr.drew w1.heap.size n1 (uptoK (askB 0 za zb) x) x y) (by rfl) (by rfl) (by rfl) Tryd.call57 ?_ ?_ ?_
            rotate_left 1
            · (go_simp; with_reducible rfl)
            · (refine HGR.out.mono ?_
               rintro e w' ⟨A', n', c', r', rfl, ho, hs', hle', hon⟩
               exact ⟨_, rfl, Only.keep HKW.out.drew hon (fun k hk => by omega), A', n', c', r', rfl, ho, hs', hle', hon⟩)
            rintro v w3 hK3 ⟨A3, n3, c3, r3, rfl, ho3, hs3, hle3, hon3⟩
            simp only [Act.put, List.setIfInBounds_toArray, List.set_cons_zero, List.set_cons_succ]
            have hKc := hK3
            repeat (first
              | (refine seq_take (v := ?_) (a' := ?_) (by rfl) ?_ ?_ ?_
                 rotate_left 2
                 · (intro w hSw; have hcs := HBOX.out w hSw; clear hSw; go_split_ands; go_simp; with_reducible rfl)
                 · (simp only [Act.put, List.setIfInBounds_toArray, List.set_cons_zero, List.set_cons_succ]; with_reducible rfl))
              | (refine seq_skip (a' := ?_) hKc (by rfl) ?_ ?_
                 rotate_left
                 · (simp only [Act.put, List.setIfInBounds_toArray, List.set_cons_zero, List.set_cons_succ]; with_reducible rfl)))
            refine seq_nil ?_
            have HI2 := Lib.hid (show BldI W1 w1.heap.size 0 za zb ns (j + 1) A3 n3 c3 w3 from ⟨r3, y, HXY.out.2.1, ho3, hs3.congr (uptoK_yes HNS.out.2.2.1 HNS.out.2.2.2 (up_between HNS.out.1 HXY.out.1 HXY.out.2.1) HXY.out.2.2.1 HXY.out.2.2.2.1 HXY.out.2.2.2.2 (by rw [HXA.out, HXB.out]; rfl)), by omega, (HON.out.trans (Only.of_keep _ (Keep.refl wr).drew) (fun _ _ h => h)).trans hon3 (fun _ _ h => h)⟩)
            clear hKc hK3 ho3 hs3 hon3 hwj hjn1
            go_wp2_with fail
            go_roundw
            case rel => exact ⟨j + 1, _, _, _, by go_num, rfl, by omega, HI2⟩
            case measure => simp [intOf]; omega
      · cases xa
        · cases xb
          · go_wp2_with fail
            go_at_call 43
            refine (rhas_v false HA.out (by omega) HXA.out).mono ?_
            rintro e wx ⟨rfl, rfl⟩
            go_wp2_with fail
            go_at_call 43
            refine (rhas_v false HB.out (by omega) HXB.out).mono ?_
            rintro e wx ⟨rfl, rfl⟩
            go_wp2_with fail
            have HI2 := Lib.hid (show BldI W1 w1.heap.size 1 za zb ns (j + 1) A1 n1 d1 wr from ⟨r, y, HXY.out.2.1, HR.out.1, HR.out.2.congr (uptoK_no HNS.out.2.2.1 HNS.out.2.2.2 (up_between HNS.out.1 HXY.out.1 HXY.out.2.1) HXY.out.2.2.1 (by rw [HXA.out, HXB.out]; rfl)), by omega, HON.out⟩)
            clear c0
            go_roundw
            case rel => exact ⟨j + 1, _, _, _, by go_num, rfl, by omega, HI2⟩
            case measure => simp [intOf]; omega
          · go_wp2_with fail
            go_at_call 43
            refine (rhas_v false HA.out (by omega) HXA.out).mono ?_
            rintro e wx ⟨rfl, rfl⟩
            go_wp2_with fail
            go_at_call 43
            refine (rhas_v true HB.out (by omega) HXB.out).mono ?_
            rintro e wx ⟨rfl, rfl⟩
            go_wp2_with fail
            have HI2 := Lib.hid (show BldI W1 w1.heap.size 1 za zb ns (j + 1) A1 n1 d1 wr from ⟨r, y, HXY.out.2.1, HR.out.1, HR.out.2.congr (uptoK_no HNS.out.2.2.1 HNS.out.2.2.2 (up_between HNS.out.1 HXY.out.1 HXY.out.2.1) HXY.out.2.2.1 (by rw [HXA.out, HXB.out]; rfl)), by omega, HON.out⟩)
            clear c0
            go_roundw
            case rel => exact ⟨j + 1, _, _, _, by go_num, rfl, by omega, HI2⟩
            case measure => simp [intOf]; omega
        · cases xb
          · go_wp2_with fail
            go_at_call 43
            refine (rhas_v true HA.out (by omega) HXA.out).mono ?_
            rintro e wx ⟨rfl, rfl⟩
            go_wp2_with fail
            go_at_call 43
            refine (rhas_v false HB.out (by omega) HXB.out).mono ?_
            rintro e wx ⟨rfl, rfl⟩
            go_wp2_with fail
            have HI2 := Lib.hid (show BldI W1 w1.heap.size 1 za zb ns (j + 1) A1 n1 d1 wr from ⟨r, y, HXY.out.2.1, HR.out.1, HR.out.2.congr (uptoK_no HNS.out.2.2.1 HNS.out.2.2.2 (up_between HNS.out.1 HXY.out.1 HXY.out.2.1) HXY.out.2.2.1 (by rw [HXA.out, HXB.out]; rfl)), by omega, HON.out⟩)
            clear c0
            go_roundw
            case rel => exact ⟨j + 1, _, _, _, by go_num, rfl, by omega, HI2⟩
            case measure => simp [intOf]; omega
          · go_wp2_with fail
            go_at_call 43
            refine (rhas_v true HA.out (by omega) HXA.out).mono ?_
            rintro e wx ⟨rfl, rfl⟩
            go_wp2_with fail
            go_at_call 43
            refine (rhas_v true HB.out (by omega) HXB.out).mono ?_
            rintro e wx ⟨rfl, rfl⟩
            go_wp2_with fail
            clear c0
            obtain ⟨hwj, hjn1⟩ := HJ.out
            refine seq_region (S := fun w' => Keep w1 w') [⟨0, 256, 9444732965739290427392⟩, ⟨0, 128, 18889465931478580854784⟩, ⟨0, 512, 37778931862957161709568⟩, ⟨6, 56668397794435742564352, 75557863725914323419136⟩, ⟨8, 75557863725914323419136, 151115727451828646838272⟩, ⟨0, 128, 302231454903657293676544⟩, ⟨0, 512, 604462909807314587353088⟩, ⟨64, 604462909807314587353088, 1208925819614629174706176⟩, ⟨160, 1511157274518286468382720, 2417851639229258349412352⟩, ⟨256, 2417851639229258349412352, 4835703278458516698824704⟩, ⟨529, 4996263738876084636090368, 9671406556917033397649408⟩, ⟨2047, 9671406556917033397649408, 256⟩] [(0, false), (1, false), (2, false), (3, false), (4, false), (5, false), (6, false), (7, false), (8, false), (9, false), (10, true), (11, false)] rfl (by kernel_rfl) (by kernel_rfl) (fun _ _ d _ _ h => by cases d <;> exact h) HKW.out.drew ?_
            simp only [rowsOf, rowAt, gslot, List.map_cons, List.map_nil, List.getElem?_toArray, List.getElem?_cons_zero, List.getElem?_cons_succ]
            repeat (first
              | (refine seq_take (v := ?_) (a' := ?_) (by rfl) ?_ ?_ ?_
                 rotate_left 2
                 · (intro w hSw; have hcs := HBOX.out w hSw; clear hSw; go_split_ands; go_simp; with_reducible rfl)
                 · (simp only [Act.put, List.setIfInBounds_toArray, List.set_cons_zero, List.set_cons_succ]; with_reducible rfl))
              | (refine seq_skip (a' := ?_) hKc (by rfl) ?_ ?_
                 rotate_left
                 · (simp only [Act.put, List.setIfInBounds_toArray, List.set_cons_zero, List.set_cons_succ]; with_reducible rfl)))
            refine seq_callx (f := 57) (args := ?_) (GrowR wr.drew w1.heap.size n1 (uptoK (askB 1 za zb) x) x y) (by rfl) (by rfl) (by rfl) Tryd.call57 ?_ ?_ ?_
            rotate_left 1
            · (go_simp; with_reducible rfl)
            · (refine HGR.out.mono ?_
               rintro e w' ⟨A', n', c', r', rfl, ho, hs', hle', hon⟩
               exact ⟨_, rfl, Only.keep HKW.out.drew hon (fun k hk => by omega), A', n', c', r', rfl, ho, hs', hle', hon⟩)
            rintro v w3 hK3 ⟨A3, n3, c3, r3, rfl, ho3, hs3, hle3, hon3⟩
            simp only [Act.put, List.setIfInBounds_toArray, List.set_cons_zero, List.set_cons_succ]
            have hKc := hK3
            repeat (first
              | (refine seq_take (v := ?_) (a' := ?_) (by rfl) ?_ ?_ ?_
                 rotate_left 2
                 · (intro w hSw; have hcs := HBOX.out w hSw; clear hSw; go_split_ands; go_simp; with_reducible rfl)
                 · (simp only [Act.put, List.setIfInBounds_toArray, List.set_cons_zero, List.set_cons_succ]; with_reducible rfl))
              | (refine seq_skip (a' := ?_) hKc (by rfl) ?_ ?_
                 rotate_left
                 · (simp only [Act.put, List.setIfInBounds_toArray, List.set_cons_zero, List.set_cons_succ]; with_reducible rfl)))
            refine seq_nil ?_
            have HI2 := Lib.hid (show BldI W1 w1.heap.size 1 za zb ns (j + 1) A3 n3 c3 w3 from ⟨r3, y, HXY.out.2.1, ho3, hs3.congr (uptoK_yes HNS.out.2.2.1 HNS.out.2.2.2 (up_between HNS.out.1 HXY.out.1 HXY.out.2.1) HXY.out.2.2.1 HXY.out.2.2.2.1 HXY.out.2.2.2.2 (by rw [HXA.out, HXB.out]; rfl)), by omega, (HON.out.trans (Only.of_keep _ (Keep.refl wr).drew) (fun _ _ h => h)).trans hon3 (fun _ _ h => h)⟩)
            clear hKc hK3 ho3 hs3 hon3 hwj hjn1
            go_wp2_with fail
            go_roundw
            case rel => exact ⟨j + 1, _, _, _, by go_num, rfl, by omega, HI2⟩
            case measure => simp [intOf]; omega
      · cases xa
        · cases xb
          · go_wp2_with fail
            go_at_call 43
            refine (rhas_v false HA.out (by omega) HXA.out).mono ?_
            rintro e wx ⟨rfl, rfl⟩
            go_wp2_with fail
            go_at_call 43
            refine (rhas_v false HB.out (by omega) HXB.out).mono ?_
            rintro e wx ⟨rfl, rfl⟩
            go_wp2_with fail
            have HI2 := Lib.hid (show BldI W1 w1.heap.size 2 za zb ns (j + 1) A1 n1 d1 wr from ⟨r, y, HXY.out.2.1, HR.out.1, HR.out.2.congr (uptoK_no HNS.out.2.2.1 HNS.out.2.2.2 (up_between HNS.out.1 HXY.out.1 HXY.out.2.1) HXY.out.2.2.1 (by rw [HXA.out, HXB.out]; rfl)), by omega, HON.out⟩)
            clear c0
            go_roundw
            case rel => exact ⟨j + 1, _, _, _, by go_num, rfl, by omega, HI2⟩
            case measure => simp [intOf]; omega
          · go_wp2_with fail
            go_at_call 43
            refine (rhas_v false HA.out (by omega) HXA.out).mono ?_
            rintro e wx ⟨rfl, rfl⟩
            go_wp2_with fail
            go_at_call 43
            refine (rhas_v true HB.out (by omega) HXB.out).mono ?_
            rintro e wx ⟨rfl, rfl⟩
            go_wp2_with fail
            have HI2 := Lib.hid (show BldI W1 w1.heap.size 2 za zb ns (j + 1) A1 n1 d1 wr from ⟨r, y, HXY.out.2.1, HR.out.1, HR.out.2.congr (uptoK_no HNS.out.2.2.1 HNS.out.2.2.2 (up_between HNS.out.1 HXY.out.1 HXY.out.2.1) HXY.out.2.2.1 (by rw [HXA.out, HXB.out]; rfl)), by omega, HON.out⟩)
            clear c0
            go_roundw
            case rel => exact ⟨j + 1, _, _, _, by go_num, rfl, by omega, HI2⟩
            case measure => simp [intOf]; omega
        · cases xb
          · go_wp2_with fail
            go_at_call 43
            refine (rhas_v true HA.out (by omega) HXA.out).mono ?_
            rintro e wx ⟨rfl, rfl⟩
            go_wp2_with fail
            go_at_call 43
            refine (rhas_v false HB.out (by omega) HXB.out).mono ?_
            rintro e wx ⟨rfl, rfl⟩
            go_wp2_with fail
            clear c0
            obtain ⟨hwj, hjn1⟩ := HJ.out
            refine seq_region (S := fun w' => Keep w1 w') [⟨0, 256, 9444732965739290427392⟩, ⟨0, 128, 18889465931478580854784⟩, ⟨0, 512, 37778931862957161709568⟩, ⟨6, 56668397794435742564352, 75557863725914323419136⟩, ⟨8, 75557863725914323419136, 151115727451828646838272⟩, ⟨0, 128, 302231454903657293676544⟩, ⟨0, 512, 604462909807314587353088⟩, ⟨64, 604462909807314587353088, 1208925819614629174706176⟩, ⟨160, 1511157274518286468382720, 2417851639229258349412352⟩, ⟨256, 2417851639229258349412352, 4835703278458516698824704⟩, ⟨529, 4996263738876084636090368, 9671406556917033397649408⟩, ⟨2047, 9671406556917033397649408, 256⟩] [(0, false), (1, false), (2, false), (3, false), (4, false), (5, false), (6, false), (7, false), (8, false), (9, false), (10, true), (11, false)] rfl (by kernel_rfl) (by kernel_rfl) (fun _ _ d _ _ h => by cases d <;> exact h) HKW.out.drew ?_
            simp only [rowsOf, rowAt, gslot, List.map_cons, List.map_nil, List.getElem?_toArray, List.getElem?_cons_zero, List.getElem?_cons_succ]
            repeat (first
              | (refine seq_take (v := ?_) (a' := ?_) (by rfl) ?_ ?_ ?_
                 rotate_left 2
                 · (intro w hSw; have hcs := HBOX.out w hSw; clear hSw; go_split_ands; go_simp; with_reducible rfl)
                 · (simp only [Act.put, List.setIfInBounds_toArray, List.set_cons_zero, List.set_cons_succ]; with_reducible rfl))
              | (refine seq_skip (a' := ?_) hKc (by rfl) ?_ ?_
                 rotate_left
                 · (simp only [Act.put, List.setIfInBounds_toArray, List.set_cons_zero, List.set_cons_succ]; with_reducible rfl)))
            refine seq_callx (f := 57) (args := ?_) (GrowR wr.drew w1.heap.size n1 (uptoK (askB 2 za zb) x) x y) (by rfl) (by rfl) (by rfl) Tryd.call57 ?_ ?_ ?_
            rotate_left 1
            · (go_simp; with_reducible rfl)
            · (refine HGR.out.mono ?_
               rintro e w' ⟨A', n', c', r', rfl, ho, hs', hle', hon⟩
               exact ⟨_, rfl, Only.keep HKW.out.drew hon (fun k hk => by omega), A', n', c', r', rfl, ho, hs', hle', hon⟩)
            rintro v w3 hK3 ⟨A3, n3, c3, r3, rfl, ho3, hs3, hle3, hon3⟩
            simp only [Act.put, List.setIfInBounds_toArray, List.set_cons_zero, List.set_cons_succ]
            have hKc := hK3
            repeat (first
              | (refine seq_take (v := ?_) (a' := ?_) (by rfl) ?_ ?_ ?_
                 rotate_left 2
                 · (intro w hSw; have hcs := HBOX.out w hSw; clear hSw; go_split_ands; go_simp; with_reducible rfl)
                 · (simp only [Act.put, List.setIfInBounds_toArray, List.set_cons_zero, List.set_cons_succ]; with_reducible rfl))
              | (refine seq_skip (a' := ?_) hKc (by rfl) ?_ ?_
                 rotate_left
                 · (simp only [Act.put, List.setIfInBounds_toArray, List.set_cons_zero, List.set_cons_succ]; with_reducible rfl)))
            refine seq_nil ?_
            have HI2 := Lib.hid (show BldI W1 w1.heap.size 2 za zb ns (j + 1) A3 n3 c3 w3 from ⟨r3, y, HXY.out.2.1, ho3, hs3.congr (uptoK_yes HNS.out.2.2.1 HNS.out.2.2.2 (up_between HNS.out.1 HXY.out.1 HXY.out.2.1) HXY.out.2.2.1 HXY.out.2.2.2.1 HXY.out.2.2.2.2 (by rw [HXA.out, HXB.out]; rfl)), by omega, (HON.out.trans (Only.of_keep _ (Keep.refl wr).drew) (fun _ _ h => h)).trans hon3 (fun _ _ h => h)⟩)
            clear hKc hK3 ho3 hs3 hon3 hwj hjn1
            go_wp2_with fail
            go_roundw
            case rel => exact ⟨j + 1, _, _, _, by go_num, rfl, by omega, HI2⟩
            case measure => simp [intOf]; omega
          · go_wp2_with fail
            go_at_call 43
            refine (rhas_v true HA.out (by omega) HXA.out).mono ?_
            rintro e wx ⟨rfl, rfl⟩
            go_wp2_with fail
            go_at_call 43
            refine (rhas_v true HB.out (by omega) HXB.out).mono ?_
            rintro e wx ⟨rfl, rfl⟩
            go_wp2_with fail
            have HI2 := Lib.hid (show BldI W1 w1.heap.size 2 za zb ns (j + 1) A1 n1 d1 wr from ⟨r, y, HXY.out.2.1, HR.out.1, HR.out.2.congr (uptoK_no HNS.out.2.2.1 HNS.out.2.2.2 (up_between HNS.out.1 HXY.out.1 HXY.out.2.1) HXY.out.2.2.1 (by rw [HXA.out, HXB.out]; rfl)), by omega, HON.out⟩)
            clear c0
            go_roundw
            case rel => exact ⟨j + 1, _, _, _, by go_num, rfl, by omega, HI2⟩
            case measure => simp [intOf]; omega
      · cases xa
        · cases xb
          · go_wp2_with fail
            go_at_call 43
            refine (rhas_v false HA.out (by omega) HXA.out).mono ?_
            rintro e wx ⟨rfl, rfl⟩
            go_wp2_with fail
            go_at_call 43
            refine (rhas_v false HB.out (by omega) HXB.out).mono ?_
            rintro e wx ⟨rfl, rfl⟩
            go_wp2_with fail
            clear c0
            obtain ⟨hwj, hjn1⟩ := HJ.out
            refine seq_region (S := fun w' => Keep w1 w') [⟨0, 256, 9444732965739290427392⟩, ⟨0, 128, 18889465931478580854784⟩, ⟨0, 512, 37778931862957161709568⟩, ⟨6, 56668397794435742564352, 75557863725914323419136⟩, ⟨8, 75557863725914323419136, 151115727451828646838272⟩, ⟨0, 128, 302231454903657293676544⟩, ⟨0, 512, 604462909807314587353088⟩, ⟨64, 604462909807314587353088, 1208925819614629174706176⟩, ⟨160, 1511157274518286468382720, 2417851639229258349412352⟩, ⟨256, 2417851639229258349412352, 4835703278458516698824704⟩, ⟨529, 4996263738876084636090368, 9671406556917033397649408⟩, ⟨2047, 9671406556917033397649408, 256⟩] [(0, false), (1, false), (2, false), (3, false), (4, false), (5, false), (6, false), (7, false), (8, false), (9, false), (10, true), (11, false)] rfl (by kernel_rfl) (by kernel_rfl) (fun _ _ d _ _ h => by cases d <;> exact h) HKW.out.drew ?_
            simp only [rowsOf, rowAt, gslot, List.map_cons, List.map_nil, List.getElem?_toArray, List.getElem?_cons_zero, List.getElem?_cons_succ]
            repeat (first
              | (refine seq_take (v := ?_) (a' := ?_) (by rfl) ?_ ?_ ?_
                 rotate_left 2
                 · (intro w hSw; have hcs := HBOX.out w hSw; clear hSw; go_split_ands; go_simp; with_reducible rfl)
                 · (simp only [Act.put, List.setIfInBounds_toArray, List.set_cons_zero, List.set_cons_succ]; with_reducible rfl))
              | (refine seq_skip (a' := ?_) hKc (by rfl) ?_ ?_
                 rotate_left
                 · (simp only [Act.put, List.setIfInBounds_toArray, List.set_cons_zero, List.set_cons_succ]; with_reducible rfl)))
            refine seq_callx (f := 57) (args := ?_) (GrowR wr.drew w1.heap.size n1 (uptoK (askB 3 za zb) x) x y) (by rfl) (by rfl) (by rfl) Tryd.call57 ?_ ?_ ?_
            rotate_left 1
            · (go_simp; with_reducible rfl)
            · (refine HGR.out.mono ?_
               rintro e w' ⟨A', n', c', r', rfl, ho, hs', hle', hon⟩
               exact ⟨_, rfl, Only.keep HKW.out.drew hon (fun k hk => by omega), A', n', c', r', rfl, ho, hs', hle', hon⟩)
            rintro v w3 hK3 ⟨A3, n3, c3, r3, rfl, ho3, hs3, hle3, hon3⟩
            simp only [Act.put, List.setIfInBounds_toArray, List.set_cons_zero, List.set_cons_succ]
            have hKc := hK3
            repeat (first
              | (refine seq_take (v := ?_) (a' := ?_) (by rfl) ?_ ?_ ?_
                 rotate_left 2
                 · (intro w hSw; have hcs := HBOX.out w hSw; clear hSw; go_split_ands; go_simp; with_reducible rfl)
                 · (simp only [Act.put, List.setIfInBounds_toArray, List.set_cons_zero, List.set_cons_succ]; with_reducible rfl))
              | (refine seq_skip (a' := ?_) hKc (by rfl) ?_ ?_
                 rotate_left
                 · (simp only [Act.put, List.setIfInBounds_toArray, List.set_cons_zero, List.set_cons_succ]; with_reducible rfl)))
            refine seq_nil ?_
            have HI2 := Lib.hid (show BldI W1 w1.heap.size 3 za zb ns (j + 1) A3 n3 c3 w3 from ⟨r3, y, HXY.out.2.1, ho3, hs3.congr (uptoK_yes HNS.out.2.2.1 HNS.out.2.2.2 (up_between HNS.out.1 HXY.out.1 HXY.out.2.1) HXY.out.2.2.1 HXY.out.2.2.2.1 HXY.out.2.2.2.2 (by rw [HXA.out, HXB.out]; rfl)), by omega, (HON.out.trans (Only.of_keep _ (Keep.refl wr).drew) (fun _ _ h => h)).trans hon3 (fun _ _ h => h)⟩)
            clear hKc hK3 ho3 hs3 hon3 hwj hjn1
            go_wp2_with fail
            go_roundw
            case rel => exact ⟨j + 1, _, _, _, by go_num, rfl, by omega, HI2⟩
            case measure => simp [intOf]; omega
          · go_wp2_with fail
            go_at_call 43
            refine (rhas_v false HA.out (by omega) HXA.out).mono ?_
            rintro e wx ⟨rfl, rfl⟩
            go_wp2_with fail
            go_at_call 43
            refine (rhas_v true HB.out (by omega) HXB.out).mono ?_
            rintro e wx ⟨rfl, rfl⟩
            go_wp2_with fail
            clear c0
            obtain ⟨hwj, hjn1⟩ := HJ.out
            refine seq_region (S := fun w' => Keep w1 w') [⟨0, 256, 9444732965739290427392⟩, ⟨0, 128, 18889465931478580854784⟩, ⟨0, 512, 37778931862957161709568⟩, ⟨6, 56668397794435742564352, 75557863725914323419136⟩, ⟨8, 75557863725914323419136, 151115727451828646838272⟩, ⟨0, 128, 302231454903657293676544⟩, ⟨0, 512, 604462909807314587353088⟩, ⟨64, 604462909807314587353088, 1208925819614629174706176⟩, ⟨160, 1511157274518286468382720, 2417851639229258349412352⟩, ⟨256, 2417851639229258349412352, 4835703278458516698824704⟩, ⟨529, 4996263738876084636090368, 9671406556917033397649408⟩, ⟨2047, 9671406556917033397649408, 256⟩] [(0, false), (1, false), (2, false), (3, false), (4, false), (5, false), (6, false), (7, false), (8, false), (9, false), (10, true), (11, false)] rfl (by kernel_rfl) (by kernel_rfl) (fun _ _ d _ _ h => by cases d <;> exact h) HKW.out.drew ?_
            simp only [rowsOf, rowAt, gslot, List.map_cons, List.map_nil, List.getElem?_toArray, List.getElem?_cons_zero, List.getElem?_cons_succ]
            repeat (first
              | (refine seq_take (v := ?_) (a' := ?_) (by rfl) ?_ ?_ ?_
                 rotate_left 2
                 · (intro w hSw; have hcs := HBOX.out w hSw; clear hSw; go_split_ands; go_simp; with_reducible rfl)
                 · (simp only [Act.put, List.setIfInBounds_toArray, List.set_cons_zero, List.set_cons_succ]; with_reducible rfl))
              | (refine seq_skip (a' := ?_) hKc (by rfl) ?_ ?_
                 rotate_left
                 · (simp only [Act.put, List.setIfInBounds_toArray, List.set_cons_zero, List.set_cons_succ]; with_reducible rfl)))
            refine seq_callx (f := 57) (args := ?_) (GrowR wr.drew w1.heap.size n1 (uptoK (askB 3 za zb) x) x y) (by rfl) (by rfl) (by rfl) Tryd.call57 ?_ ?_ ?_
            rotate_left 1
            · (go_simp; with_reducible rfl)
            · (refine HGR.out.mono ?_
               rintro e w' ⟨A', n', c', r', rfl, ho, hs', hle', hon⟩
               exact ⟨_, rfl, Only.keep HKW.out.drew hon (fun k hk => by omega), A', n', c', r', rfl, ho, hs', hle', hon⟩)
            rintro v w3 hK3 ⟨A3, n3, c3, r3, rfl, ho3, hs3, hle3, hon3⟩
            simp only [Act.put, List.setIfInBounds_toArray, List.set_cons_zero, List.set_cons_succ]
            have hKc := hK3
            repeat (first
              | (refine seq_take (v := ?_) (a' := ?_) (by rfl) ?_ ?_ ?_
                 rotate_left 2
                 · (intro w hSw; have hcs := HBOX.out w hSw; clear hSw; go_split_ands; go_simp; with_reducible rfl)
                 · (simp only [Act.put, List.setIfInBounds_toArray, List.set_cons_zero, List.set_cons_succ]; with_reducible rfl))
              | (refine seq_skip (a' := ?_) hKc (by rfl) ?_ ?_
                 rotate_left
                 · (simp only [Act.put, List.setIfInBounds_toArray, List.set_cons_zero, List.set_cons_succ]; with_reducible rfl)))
            refine seq_nil ?_
            have HI2 := Lib.hid (show BldI W1 w1.heap.size 3 za zb ns (j + 1) A3 n3 c3 w3 from ⟨r3, y, HXY.out.2.1, ho3, hs3.congr (uptoK_yes HNS.out.2.2.1 HNS.out.2.2.2 (up_between HNS.out.1 HXY.out.1 HXY.out.2.1) HXY.out.2.2.1 HXY.out.2.2.2.1 HXY.out.2.2.2.2 (by rw [HXA.out, HXB.out]; rfl)), by omega, (HON.out.trans (Only.of_keep _ (Keep.refl wr).drew) (fun _ _ h => h)).trans hon3 (fun _ _ h => h)⟩)
            clear hKc hK3 ho3 hs3 hon3 hwj hjn1
            go_wp2_with fail
            go_roundw
            case rel => exact ⟨j + 1, _, _, _, by go_num, rfl, by omega, HI2⟩
            case measure => simp [intOf]; omega
        · cases xb
          · go_wp2_with fail
            go_at_call 43
            refine (rhas_v true HA.out (by omega) HXA.out).mono ?_
            rintro e wx ⟨rfl, rfl⟩
            go_wp2_with fail
            go_at_call 43
            refine (rhas_v false HB.out (by omega) HXB.out).mono ?_
            rintro e wx ⟨rfl, rfl⟩
            go_wp2_with fail
            have HI2 := Lib.hid (show BldI W1 w1.heap.size 3 za zb ns (j + 1) A1 n1 d1 wr from ⟨r, y, HXY.out.2.1, HR.out.1, HR.out.2.congr (uptoK_no HNS.out.2.2.1 HNS.out.2.2.2 (up_between HNS.out.1 HXY.out.1 HXY.out.2.1) HXY.out.2.2.1 (by rw [HXA.out, HXB.out]; rfl)), by omega, HON.out⟩)
            clear c0
            go_roundw
            case rel => exact ⟨j + 1, _, _, _, by go_num, rfl, by omega, HI2⟩
            case measure => simp [intOf]; omega
          · go_wp2_with fail
            go_at_call 43
            refine (rhas_v true HA.out (by omega) HXA.out).mono ?_
            rintro e wx ⟨rfl, rfl⟩
            go_wp2_with fail
            go_at_call 43
            refine (rhas_v true HB.out (by omega) HXB.out).mono ?_
            rintro e wx ⟨rfl, rfl⟩
            go_wp2_with fail
            have HI2 := Lib.hid (show BldI W1 w1.heap.size 3 za zb ns (j + 1) A1 n1 d1 wr from ⟨r, y, HXY.out.2.1, HR.out.1, HR.out.2.congr (uptoK_no HNS.out.2.2.1 HNS.out.2.2.2 (up_between HNS.out.1 HXY.out.1 HXY.out.2.1) HXY.out.2.2.1 (by rw [HXA.out, HXB.out]; rfl)), by omega, HON.out⟩)
            clear c0
            go_roundw
            case rel => exact ⟨j + 1, _, _, _, by go_num, rfl, by omega, HI2⟩
            case measure => simp [intOf]; omega
    · have hje : j + 1 = ns.length := by rw [HLEN.out]; omega
      obtain rfl := up_last HNS.out.1 HNS.out.2.1 HL6.out hje hx
      have HE := Lib.hid (show BuildPost w kind za zb (1 + 2 * (na + nb)) (.returned (.slice A1 n1 d1)) wr from
        ⟨_, _, _, r, rfl, ownsRow_le ho (by have := HSZ.out; omega), hs.congr (fun k => ⟨fun h => h.1, fun h => ⟨h, by have := askB_key h; omega⟩⟩), by omega, HK01.out.trans hkw⟩)
      clear ho hs hon hkw hx hje
      have hjn : (nc : Int) ≤ (j : Int) + 1 := by omega
      go_wp2_with fail
      go_ret
      exact HE.out
end Go.Proofs.YtmdhbbibghpijaaDoor
