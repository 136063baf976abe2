/- arena's functions: what each call answers, and does to the nodes. -/
import Derived.Test.YtopengbflnoneaaArnBase
import Derived.Deep.RegionHeld3
import Derived.BigQuiet
namespace Go.Proofs.Ytopengbflnoneaa
open Go.RowKit

theorem new_yes (lim : Nat) (w : World) (h1 : 1 ≤ lim) (h2 : lim ≤ 4194304) :
    Calls Try.prog 28 #[.int .i64 lim] w fun e w' => e = .returned (.tuple #[.pointer (some ⟨w.heap.size, 0, none⟩), .int .i64 0]) ∧ Keep w w' ∧ w'.heap.size = w.heap.size + 1 ∧ Ar w' w.heap.size lim none 0 [] := by
  have i1 : (1 : Int) ≤ (lim : Int) := by omega
  have i2 : (lim : Int) ≤ 4194304 := by omega
  have hb := World.alloc_heap_new w (.cells #[.int .i64 lim, .slice none 0 0] 74)
  go_enter Try.func28, Try.ntmps28
  go_wp2
  refine bodyPost_ret (v := .tuple #[.pointer (some ⟨w.heap.size, 0, none⟩), .int .i64 0]) (by simp [results, Try.results28, go_sem]) rfl ⟨rfl, (Keep.refl w).alloc _, by simp, ?_⟩
  exact Ar.of_block hb h1 h2
theorem new_no (lim : Int) (w : World) (h : lim < 1 ∨ 4194304 < lim) :
    Calls Try.prog 28 #[.int .i64 lim] w fun e w' => e = .returned (.tuple #[.pointer none, .int .i64 1]) ∧ w = w' := by
  by_cases hl : lim < 1
  · go_enter Try.func28, Try.ntmps28
    go_wp2
    exact bodyPost_ret (v := .tuple #[.pointer none, .int .i64 1]) (by simp [results, Try.results28, go_sem]) rfl ⟨rfl, rfl⟩
  · have h2 : 4194304 < lim := by omega
    have h3 : 1 ≤ lim := by omega
    go_enter Try.func28, Try.ntmps28
    go_wp2
    exact bodyPost_ret (v := .tuple #[.pointer none, .int .i64 1]) (by simp [results, Try.results28, go_sem]) rfl ⟨rfl, rfl⟩

section
variable {b lim : Nat} {A : Option Addr} {c : Nat} {xs : List Nd} {w : World}
theorem len_is (h : Ar w b lim A c xs) :
    Calls Try.prog 36 #[.pointer (some ⟨b, 0, none⟩)] w fun e w' => e = .returned (.int .i64 xs.length) ∧ w = w' := by
  have h1 := h.row
  go_enter Try.func36, Try.ntmps36
  go_wp2
  go_ret
  exact ⟨rfl, rfl⟩
theorem room_is (h : Ar w b lim A c xs) :
    Calls Try.prog 31 #[.pointer (some ⟨b, 0, none⟩)] w fun e w' => e = .returned (.int .i64 ((lim : Int) - (xs.length : Int))) ∧ Keep w w' := by
  have h0 := h.lim0
  have h1 := h.row
  have h2 : (xs.length : Int) ≤ lim := by have := h.fits; omega
  have h3 : (lim : Int) ≤ 4194304 := by have := h.top; omega
  go_enter Try.func31, Try.ntmps31
  go_wp2_with fail
  go_region
  go_wp2
  go_ret
  exact ⟨ret_int (by go_num), (Keep.refl w).drew⟩
theorem has_is (i : Int) (v : Bool) (h : Ar w b lim A c xs) (hv : decide (1 ≤ i ∧ i ≤ (xs.length : Int)) = v) (hi : -2147483648 ≤ i ∧ i ≤ 2147483647) :
    Calls Try.prog 68 #[.pointer (some ⟨b, 0, none⟩), .int .i32 i] w fun e w' => e = .returned (.bool v) ∧ w = w' := by
  have h1 := h.row
  by_cases hl : 1 ≤ i
  · have e : v = decide (i ≤ (xs.length : Int)) := by rw [← hv]; simp [hl]
    have HE := Lib.hid e
    clear e hv
    go_enter Try.func68, Try.ntmps68
    go_wp2
    go_ret
    exact ⟨by rw [HE.out]; rfl, rfl⟩
  · have e : v = false := by rw [← hv]; simp [hl]
    have hl2 : i < 1 := by omega
    have HE := Lib.hid e
    clear e hv hl
    go_enter Try.func68, Try.ntmps68
    go_wp2
    go_ret
    exact ⟨by rw [HE.out]; rfl, rfl⟩
theorem alloc_no (h : Ar w b lim A c xs) (hf : xs.length = lim) :
    Calls Try.prog 48 #[.pointer (some ⟨b, 0, none⟩)] w fun e w' => e = .returned (.tuple #[.int .i32 0, .int .i64 6]) ∧ Keep w w' := by
  have hr := room_is h
  rw [hf, Int.sub_self] at hr
  have HR := Lib.hid hr
  clear hr h
  go_enter Try.func48, Try.ntmps48
  go_wp2_with fail
  refine HR.out.mono ?_
  rintro e w1 ⟨rfl, hk⟩
  go_wp2
  exact bodyPost_ret (v := .tuple #[.int .i32 0, .int .i64 6]) (by simp [results, Try.results48, go_sem]) rfl ⟨rfl, hk⟩
set_option maxRecDepth 100000 in
set_option maxHeartbeats 1000000 in
theorem alloc_yes (h : Ar w b lim A c xs) (hf : xs.length < lim) :
    Calls Try.prog 48 #[.pointer (some ⟨b, 0, none⟩)] w fun e w' => e = .returned (.tuple #[.int .i32 ((xs.length : Int) + 1), .int .i64 0]) ∧ ∃ A' c', Ar w' b lim A' c' (xs ++ [Nd.zero]) ∧
      Only (fun k => k = b ∨ (Value.slice A xs.length c).ownBlock = some k) w w' ∧ ((Value.slice A' (xs.length + 1) c').ownBlock = (Value.slice A xs.length c).ownBlock ∨ ∃ k, w.heap.size ≤ k ∧ (Value.slice A' (xs.length + 1) c').ownBlock = some k) := by
  obtain ⟨i0, hi, hz0, hz1, hz2⟩ := info_parts infoNd
  have hr := room_is h
  have hpos : (1 : Int) ≤ (lim : Int) - (xs.length : Int) := by omega
  have htop := h.top
  have HR := Lib.hid hr
  have H := Lib.hid h
  clear hr h
  go_enter Try.func48, Try.ntmps48
  go_wp2_with fail
  refine HR.out.mono ?_
  rintro e w1 ⟨rfl, hk⟩
  have H1 := Lib.hid (H.out.keep hk)
  have hrow := H1.out.row
  have hml : xs.length + 1 ≤ maxLen := by unfold maxLen; omega
  have hby : (xs.length + 1) * 48 ≤ 140737488355328 := by omega
  have hbs : b + 1 ≤ (w1.alloc (.cells #[.int .i32 Nd.zero.l, .int .i32 Nd.zero.r, .int .i64 Nd.zero.c, .int .i64 Nd.zero.s, .int .i64 Nd.zero.mn, .int .i64 Nd.zero.mx, .bool Nd.zero.k] 96)).heap.size := by have := H1.out.lt; simp; omega
  clear HR
  go_wp2_with (at_builtin; go_must (refine wpList_append_sz rfl _ _ 72 rfl (b + 1) 96 i0 (.agg #[.int .i32 Nd.zero.l, .int .i32 Nd.zero.r, .int .i64 Nd.zero.c, .int .i64 Nd.zero.s, .int .i64 Nd.zero.mn, .int .i64 Nd.zero.mx, .bool Nd.zero.k]) 7 48 Try.underlying72 hi hz0 hz1 hz2 rfl (by decide) _ xs.length (nds xs) rfl (H1.out.own.alloc _) ⟨w1.heap.size, 0, none⟩ 1 1 (ndc Nd.zero) rfl rfl (NdAt.new w1 Nd.zero).news (nds_single Nd.zero ▸ nds_one [Nd.zero]) hml hby hbs ?_); intro A6 c6 w6 hown6 hgrow6 hbl6; obtain ⟨r6, f6, l6, b6⟩ := H1.out.grown hgrow6; have HA6 := Lib.hid (H1.out.appended hgrow6 hown6 hf); have HB6 := Lib.hid hbl6; have HG6 := Lib.hid hgrow6; clear hbl6 hown6 hgrow6)
  have hO : Only (fun k => k = b ∨ (Value.slice A xs.length c).ownBlock = some k) w (w6.setCell ⟨b, 1, none⟩ (.slice A6 (xs.length + 1) c6)) := (Only.grown (Only.of_keep _ (hk.alloc _)) HG6.out (fun k _ e => .inr e)).setCell _ _ (.inl rfl)
  have hn2 : (xs.length : Int) + 1 ≤ 2147483647 := by omega
  refine bodyPost_ret (v := .tuple #[.int .i32 ((xs.length : Int) + 1), .int .i64 0]) (by simp [results, Try.results48, go_sem]) rfl ⟨rfl, A6, c6, HA6.out, hO, ?_⟩
  rcases HB6.out with e | e
  · exact .inl e
  · exact .inr ⟨_, Nat.le_trans hk.size (Nat.le_succ _), by simpa using e⟩
set_option maxHeartbeats 1000000 in
theorem get_no (i : Int) (h : Ar w b lim A c xs) (hi : -2147483648 ≤ i ∧ i ≤ 2147483647) (hn : ¬ (1 ≤ i ∧ i ≤ (xs.length : Int))) :
    Calls Try.prog 47 #[.pointer (some ⟨b, 0, none⟩), .int .i32 i] w fun e w' => e = .returned (.tuple #[.agg #[.int .i32 0, .int .i32 0, .int .i64 0, .int .i64 0, .int .i64 0, .int .i64 0, .bool false], .int .i64 4]) ∧ Keep w w' := by
  have hk := (Keep.refl w).alloc (.cells #[.int .i32 0, .int .i32 0, .int .i64 0, .int .i64 0, .int .i64 0, .int .i64 0, .bool false] 96)
  have hh := has_is i false (h.keep hk) (decide_eq_false hn) hi
  have hN : NdAt (w.alloc (.cells #[.int .i32 0, .int .i32 0, .int .i64 0, .int .i64 0, .int .i64 0, .int .i64 0, .bool false] 96)) w.heap.size Nd.zero := NdAt.new w Nd.zero
  clear h hn
  go_enter Try.func47, Try.ntmps47
  go_wp2_with fail
  generalize w.alloc (.cells #[.int .i32 0, .int .i32 0, .int .i64 0, .int .i64 0, .int .i64 0, .int .i64 0, .bool false] 96) = W0 at *
  obtain ⟨c0, c1, c2, c3, c4, c5, c6⟩ := hN.cells0
  obtain ⟨f0, f1, f2, f3, f4, f5, f6⟩ := hN.free
  refine hh.mono ?_
  rintro e w1 ⟨rfl, rfl⟩
  have HN := Lib.hid hN
  clear hh hN
  go_wp2
  have hF : NdAt (((((((W0.setCell ⟨w.heap.size, 0, none⟩ (.int .i32 0)).setCell ⟨w.heap.size, 1, none⟩ (.int .i32 0)).setCell ⟨w.heap.size, 2, none⟩ (.int .i64 0)).setCell ⟨w.heap.size, 3, none⟩ (.int .i64 0)).setCell ⟨w.heap.size, 4, none⟩ (.int .i64 0)).setCell ⟨w.heap.size, 5, none⟩ (.int .i64 0)).setCell ⟨w.heap.size, 6, none⟩ (.bool false)) w.heap.size Nd.zero := HN.out.stored Nd.zero
  have hkF : Keep w (((((((W0.setCell ⟨w.heap.size, 0, none⟩ (.int .i32 0)).setCell ⟨w.heap.size, 1, none⟩ (.int .i32 0)).setCell ⟨w.heap.size, 2, none⟩ (.int .i64 0)).setCell ⟨w.heap.size, 3, none⟩ (.int .i64 0)).setCell ⟨w.heap.size, 4, none⟩ (.int .i64 0)).setCell ⟨w.heap.size, 5, none⟩ (.int .i64 0)).setCell ⟨w.heap.size, 6, none⟩ (.bool false)) := set7_keep hk (Nat.le_refl _) Nd.zero
  generalize ((((((W0.setCell ⟨w.heap.size, 0, none⟩ (.int .i32 0)).setCell ⟨w.heap.size, 1, none⟩ (.int .i32 0)).setCell ⟨w.heap.size, 2, none⟩ (.int .i64 0)).setCell ⟨w.heap.size, 3, none⟩ (.int .i64 0)).setCell ⟨w.heap.size, 4, none⟩ (.int .i64 0)).setCell ⟨w.heap.size, 5, none⟩ (.int .i64 0)).setCell ⟨w.heap.size, 6, none⟩ (.bool false) = WF at *
  obtain ⟨d0, d1, d2, d3, d4, d5, d6⟩ := hF.cells0
  exact bodyPost_ret (v := .tuple #[.agg #[.int .i32 0, .int .i32 0, .int .i64 0, .int .i64 0, .int .i64 0, .int .i64 0, .bool false], .int .i64 4]) (by simp [results, Try.results47, go_sem, d0, d1, d2, d3, d4, d5, d6]) rfl ⟨rfl, hkF⟩
set_option maxHeartbeats 1000000 in
theorem get_yes (j : Nat) (z : Nd) (h : Ar w b lim A c xs) (hj : xs[j]? = some z) :
    Calls Try.prog 47 #[.pointer (some ⟨b, 0, none⟩), .int .i32 ((j : Int) + 1)] w fun e w' => e = .returned (.tuple #[.agg #[.int .i32 z.l, .int .i32 z.r, .int .i64 z.c, .int .i64 z.s, .int .i64 z.mn, .int .i64 z.mx, .bool z.k], .int .i64 0]) ∧ Keep w w' := by
  have hjl := (List.getElem?_eq_some_iff.1 hj).1
  have hl1 := h.fits
  have hl2 := h.top
  have hk := (Keep.refl w).alloc (.cells #[.int .i32 0, .int .i32 0, .int .i64 0, .int .i64 0, .int .i64 0, .int .i64 0, .bool false] 96)
  have hh := has_is ((j : Int) + 1) true (h.keep hk) (decide_eq_true (by omega)) (by omega)
  have hN : NdAt (w.alloc (.cells #[.int .i32 0, .int .i32 0, .int .i64 0, .int .i64 0, .int .i64 0, .int .i64 0, .bool false] 96)) w.heap.size Nd.zero := NdAt.new w Nd.zero
  have hA := h.keep hk
  have hlt : (w.alloc (.cells #[.int .i32 0, .int .i32 0, .int .i64 0, .int .i64 0, .int .i64 0, .int .i64 0, .bool false] 96)).heap.size = w.heap.size + 1 := by simp
  obtain ⟨g, rfl, hg1, hg2, _⟩ := h.at_ j z hj
  clear h
  go_enter Try.func47, Try.ntmps47
  go_wp2_with fail
  generalize w.alloc (.cells #[.int .i32 0, .int .i32 0, .int .i64 0, .int .i64 0, .int .i64 0, .int .i64 0, .bool false] 96) = W0 at *
  obtain ⟨c0, c1, c2, c3, c4, c5, c6⟩ := hN.cells
  obtain ⟨f0, f1, f2, f3, f4, f5, f6⟩ := hN.free
  obtain ⟨g', e', _, _, _, a0, a1, a2, a3, a4, a5, a6⟩ := hA.at_ j z hj
  cases e'
  have hrow := hA.row
  refine hh.mono ?_
  rintro e w1 ⟨rfl, rfl⟩
  have HN := Lib.hid hN
  have hji : (j : Int) < (xs.length : Int) := by omega
  have hw : IntKind.i32.wrap ((j : Int) + 1 - 1) = (j : Int) := by rw [IntKind.wrap_i32]; omega
  clear hh hN hA
  go_wp2_with fail
  have hF : NdAt (((((((W0.setCell ⟨w.heap.size, 0, none⟩ (.int .i32 z.l)).setCell ⟨w.heap.size, 1, none⟩ (.int .i32 z.r)).setCell ⟨w.heap.size, 2, none⟩ (.int .i64 z.c)).setCell ⟨w.heap.size, 3, none⟩ (.int .i64 z.s)).setCell ⟨w.heap.size, 4, none⟩ (.int .i64 z.mn)).setCell ⟨w.heap.size, 5, none⟩ (.int .i64 z.mx)).setCell ⟨w.heap.size, 6, none⟩ (.bool z.k)) w.heap.size z := HN.out.stored z
  have hkF : Keep w (((((((W0.setCell ⟨w.heap.size, 0, none⟩ (.int .i32 z.l)).setCell ⟨w.heap.size, 1, none⟩ (.int .i32 z.r)).setCell ⟨w.heap.size, 2, none⟩ (.int .i64 z.c)).setCell ⟨w.heap.size, 3, none⟩ (.int .i64 z.s)).setCell ⟨w.heap.size, 4, none⟩ (.int .i64 z.mn)).setCell ⟨w.heap.size, 5, none⟩ (.int .i64 z.mx)).setCell ⟨w.heap.size, 6, none⟩ (.bool z.k)) := set7_keep hk (Nat.le_refl _) z
  generalize ((((((W0.setCell ⟨w.heap.size, 0, none⟩ (.int .i32 z.l)).setCell ⟨w.heap.size, 1, none⟩ (.int .i32 z.r)).setCell ⟨w.heap.size, 2, none⟩ (.int .i64 z.c)).setCell ⟨w.heap.size, 3, none⟩ (.int .i64 z.s)).setCell ⟨w.heap.size, 4, none⟩ (.int .i64 z.mn)).setCell ⟨w.heap.size, 5, none⟩ (.int .i64 z.mx)).setCell ⟨w.heap.size, 6, none⟩ (.bool z.k) = WF at *
  obtain ⟨d0, d1, d2, d3, d4, d5, d6⟩ := hF.cells
  exact bodyPost_ret (v := .tuple #[.agg #[.int .i32 z.l, .int .i32 z.r, .int .i64 z.c, .int .i64 z.s, .int .i64 z.mn, .int .i64 z.mx, .bool z.k], .int .i64 0]) (by simp [results, Try.results47, go_sem, d0, d1, d2, d3, d4, d5, d6]) rfl ⟨rfl, hkF⟩
theorem set_no (i : Int) (y : Nd) (h : Ar w b lim A c xs) (hi : -2147483648 ≤ i ∧ i ≤ 2147483647) (hn : ¬ (1 ≤ i ∧ i ≤ (xs.length : Int))) :
    Calls Try.prog 50 #[.pointer (some ⟨b, 0, none⟩), .int .i32 i, .agg #[.int .i32 y.l, .int .i32 y.r, .int .i64 y.c, .int .i64 y.s, .int .i64 y.mn, .int .i64 y.mx, .bool y.k]] w fun e w' => e = .returned (.int .i64 4) ∧ Keep w w' := by
  have hk := (Keep.refl w).alloc (.cells #[.int .i32 y.l, .int .i32 y.r, .int .i64 y.c, .int .i64 y.s, .int .i64 y.mn, .int .i64 y.mx, .bool y.k] 96)
  have hh := has_is i false (h.keep hk) (decide_eq_false hn) hi
  clear h hn
  go_enter Try.func50, Try.ntmps50
  go_wp2_with fail
  refine hh.mono ?_
  rintro e w1 ⟨rfl, rfl⟩
  clear hh
  go_wp2
  go_ret
  exact ⟨rfl, hk⟩
set_option maxHeartbeats 1000000 in
theorem set_yes (j : Nat) (y : Nd) (h : Ar w b lim A c xs) (hj : j < xs.length) :
    Calls Try.prog 50 #[.pointer (some ⟨b, 0, none⟩), .int .i32 ((j : Int) + 1), .agg #[.int .i32 y.l, .int .i32 y.r, .int .i64 y.c, .int .i64 y.s, .int .i64 y.mn, .int .i64 y.mx, .bool y.k]] w fun e w' => e = .returned (.int .i64 0) ∧ Ar w' b lim A c (xs.set j y) ∧ Only (fun k => (Value.slice A xs.length c).ownBlock = some k) w w' := by
  have hl1 := h.fits
  have hl2 := h.top
  have hk := (Keep.refl w).alloc (.cells #[.int .i32 y.l, .int .i32 y.r, .int .i64 y.c, .int .i64 y.s, .int .i64 y.mn, .int .i64 y.mx, .bool y.k] 96)
  have hh := has_is ((j : Int) + 1) true (h.keep hk) (decide_eq_true (by omega)) (by omega)
  have hN : NdAt (w.alloc (.cells #[.int .i32 y.l, .int .i32 y.r, .int .i64 y.c, .int .i64 y.s, .int .i64 y.mn, .int .i64 y.mx, .bool y.k] 96)) w.heap.size y := NdAt.new w y
  have hA := h.keep hk
  obtain ⟨g, rfl, hg1, hg2, _⟩ := h.at_ j xs[j] (List.getElem?_eq_getElem hj)
  clear h
  go_enter Try.func50, Try.ntmps50
  go_wp2_with fail
  generalize w.alloc (.cells #[.int .i32 y.l, .int .i32 y.r, .int .i64 y.c, .int .i64 y.s, .int .i64 y.mn, .int .i64 y.mx, .bool y.k] 96) = W0 at *
  obtain ⟨c0, c1, c2, c3, c4, c5, c6⟩ := hN.cells
  obtain ⟨g', e', _, _, hfr, a0, a1, a2, a3, a4, a5, a6⟩ := hA.at_ j xs[j] (List.getElem?_eq_getElem hj)
  cases e'
  have hrow := hA.row
  refine hh.mono ?_
  rintro e w1 ⟨rfl, rfl⟩
  have HA := Lib.hid hA
  have hji : (j : Int) < (xs.length : Int) := by omega
  have hw : IntKind.i32.wrap ((j : Int) + 1 - 1) = (j : Int) := by rw [IntKind.wrap_i32]; omega
  have f0 := hfr (j * 7)
  have f1 := hfr (j * 7 + 1)
  have f2 := hfr (j * 7 + 2)
  have f3 := hfr (j * 7 + 3)
  have f4 := hfr (j * 7 + 4)
  have f5 := hfr (j * 7 + 5)
  have f6 := hfr (j * 7 + 6)
  clear hh hN hA hfr
  go_wp2_with fail
  go_region
  go_wp2_with fail
  go_ret
  have hA := (HA.out.stored j y hj).keep (Keep.refl _).drew
  refine ⟨rfl, hA, ?_⟩
  exact Only.drew (row7_only (S := fun k => (Value.slice (some ⟨g, 0, none⟩) xs.length c).ownBlock = some k) (Only.of_keep _ hk) rfl (j * 7) y)
end
end Go.Proofs.Ytopengbflnoneaa
