/- ArenaKeeps: what is set is got, and nothing else is turned. -/
import Derived.Test.YtdnhgfbchddababArnArg
namespace Go.Proofs.Ytdnhgfbchddabab
open Go.RowKit

theorem bounds_i32 {x : Int} (h : (Lit.int .i32 x).wf = true) : -2147483648 ≤ x ∧ x ≤ 2147483647 := by
  have e1 : IntKind.i32.min = -2147483648 := by decide
  have e2 : IntKind.i32.max = 2147483647 := by decide
  simp [Lit.wf, e1, e2] at h
  omega
section
variable {w0 w : World} {b lim : Nat} {Pr : Nat → Prop} {xs : List Nd}
theorem k_alloc (k : Nat) (hk : xs.length = k) (h : My w0 b lim xs Pr w) (hf : k < lim) : Calls Try.prog 10 #[.pointer (some ⟨b, 0, none⟩)] w fun e w' => e = .returned (.tuple #[.int .i32 ((k : Int) + 1), .int .i64 0]) ∧ My w0 b lim (xs ++ [Nd.zero]) Pr w' ∧ Only (fun k => ¬ Pr k) w w' := by
  subst hk
  exact my_alloc h hf
theorem k_full (k : Nat) (hk : xs.length = k) (h : My w0 b k xs Pr w) : Calls Try.prog 10 #[.pointer (some ⟨b, 0, none⟩)] w fun e w' => e = .returned (.tuple #[.int .i32 0, .int .i64 6]) ∧ Keep w w' := my_full h hk
theorem k_set (k : Nat) (z : Nd) (hk : xs.length = k) (h : My w0 b lim (xs ++ [Nd.zero]) Pr w) : Calls Try.prog 12 #[.pointer (some ⟨b, 0, none⟩), .int .i32 ((k : Int) + 1), .agg #[.int .i32 z.l, .int .i32 z.r, .int .i64 z.c, .int .i64 z.s, .int .i64 z.mn, .int .i64 z.mx, .bool z.k]] w fun e w' => e = .returned (.int .i64 0) ∧ My w0 b lim (xs ++ [z]) Pr w' ∧ Only (fun k => ¬ Pr k) w w' := by
  subst hk
  have := my_set xs.length z h (by simp)
  rwa [show (xs ++ [Nd.zero]).set xs.length z = xs ++ [z] by simp] at this
end
theorem take_snoc (zs : List Nd) (k : Nat) (z : Nd) (h : zs[k]? = some z) : zs.take k ++ [z] = zs.take (k + 1) := by
  rw [List.take_add_one, h]
  rfl
/-- What a node is when one has been set. -/
theorem set_get (xs : List Nd) (j k : Nat) (n z : Nd) (h : (xs.set j n)[k]? = some z) : (k = j ∧ z = n) ∨ (k ≠ j ∧ xs[k]? = some z) := by
  by_cases e : j = k
  · subst e
    rw [List.getElem?_set_self (by have := (List.getElem?_eq_some_iff.1 h).1; simpa using this)] at h
    exact .inl ⟨rfl, by simpa using h.symm⟩
  · rw [List.getElem?_set_ne e] at h
    exact .inr ⟨fun h => e h.symm, h⟩

set_option maxRecDepth 100000 in
set_option maxHeartbeats 8000000 in
theorem keeps_law (a0 : Int) (A : Option Addr) (len cap : Nat) (zs : List Nd) (a2 : Int) (n : Nd) (w : World) (hi2 : -2147483648 ≤ a2 ∧ a2 ≤ 2147483647) (row : NdArg w A len zs) :
    Calls Try.prog 4 #[.int .i64 a0, .slice A len cap, .int .i32 a2, .agg #[.int .i32 n.l, .int .i32 n.r, .int .i64 n.c, .int .i64 n.s, .int .i64 n.mn, .int .i64 n.mx, .bool n.k]] w fun e w' => e = .returned (.bool true) ∧ Keep w w' := by
  obtain ⟨hml, hzl, hS⟩ := row
  unfold maxLen at hml
  have HZL := Lib.hid hzl
  have HS := Lib.hid hS
  clear hzl hS
  have HN := Lib.hid (NdAt.new w n)
  have HK := Lib.hid ((Keep.refl w).alloc (.cells #[.int .i32 n.l, .int .i32 n.r, .int .i64 n.c, .int .i64 n.s, .int .i64 n.mn, .int .i64 n.mx, .bool n.k] 34))
  go_enter Try.func4, Try.ntmps4
  go_wp2_with fail
  generalize w.alloc (.cells #[.int .i32 n.l, .int .i32 n.r, .int .i64 n.c, .int .i64 n.s, .int .i64 n.mn, .int .i64 n.mx, .bool n.k] 34) = Wn at *
  refine (alive_any Wn).mono ?_
  rintro e W0 ⟨rfl, hk0⟩
  have HN0 := Lib.hid (HN.out.keep hk0)
  have HK0 := Lib.hid (HK.out.trans hk0)
  clear hk0 HN HK
  by_cases h1 : a0 < 1
  · go_wp2
    go_ret
    exact ⟨rfl, HK0.out⟩
  have h1' : 1 ≤ a0 := by omega
  clear h1
  by_cases h2 : 60 < a0
  · go_wp2
    go_ret
    exact ⟨rfl, HK0.out⟩
  have h2' : a0 ≤ 60 := by omega
  clear h2
  by_cases h3 : 60 < len
  · go_wp2
    go_ret
    exact ⟨rfl, HK0.out⟩
  have h3' : len ≤ 60 := by omega
  clear h3
  obtain ⟨lim, rfl⟩ : ∃ lim : Nat, a0 = (lim : Int) := ⟨a0.toNat, by omega⟩
  go_wp2_with fail
  refine (my_new lim W0 (by omega) (by omega)).mono ?_
  rintro e W1 ⟨rfl, hM1⟩
  have HM1 := Lib.hid hM1
  clear hM1
  go_wp2_with fail
  go_loopw [11, 42] (fun cnt ix wr => ∃ k m : Nat, k ≤ len ∧ ix = .int .i64 k ∧ cnt = .int .i64 m ∧ m ≤ lim ∧ m ≤ k ∧ Hid (m = min k lim) ∧ Hid (My W0 W0.heap.size lim (zs.take m) (fun _ => False) wr)) (fun _ ix _ => len - (intOf ix).toNat)
  case atStart => exact ⟨0, 0, Nat.zero_le _, rfl, rfl, Nat.zero_le _, Nat.zero_le _, Lib.hid (by simp), HM1⟩
  case round =>
    obtain ⟨k, m, hk, rfl, rfl, hml2, hmk, hm, hM⟩ := hrel
    clear HM1
    by_cases hlt : k < len
    · obtain ⟨z, hzk⟩ : ∃ z, zs[k]? = some z := ⟨_, List.getElem?_eq_getElem (by rw [HZL.out]; exact hlt)⟩
      obtain ⟨bz, oz, rfl, _, _, c0, c1, c2, c3, c4, c5, c6⟩ := (HS.out.keep (HK0.out.trans hM.out.keepW)) k z hzk
      have hki : (k : Int) < (len : Int) := by omega
      have HZK := Lib.hid hzk
      clear hzk
      have HNz := Lib.hid (NdAt.new wr z)
      have HMz := Lib.hid ((hM.out.keep ((Keep.refl wr).alloc (.cells #[.int .i32 z.l, .int .i32 z.r, .int .i64 z.c, .int .i64 z.s, .int .i64 z.mn, .int .i64 z.mx, .bool z.k] 34))).mono (Pr' := fun j => j = wr.heap.size) (fun j e => .inr (by subst e; simp)))
      by_cases hfl : k < lim
      · obtain rfl : m = k := by have := hm.out; omega
        clear hm hM
        have hxl : (zs.take m).length = m := by rw [List.length_take, HZL.out]; omega
        have HXL := Lib.hid hxl
        have HTS := Lib.hid (take_snoc zs m z HZK.out)
        generalize zs.take m = xs at *
        clear hxl
        go_wp2_with fail
        generalize wr.alloc (.cells #[.int .i32 z.l, .int .i32 z.r, .int .i64 z.c, .int .i64 z.s, .int .i64 z.mn, .int .i64 z.mx, .bool z.k] 34) = wz at *
        refine (k_alloc m HXL.out HMz.out hfl).mono ?_
        rintro e W2 ⟨rfl, h2, ho2⟩
        have hN2 := HNz.out.only ho2 (fun h => h rfl)
        obtain ⟨d0, d1, d2, d3, d4, d5, d6⟩ := hN2.cells
        have H2 := Lib.hid h2
        clear h2 ho2 hN2 HMz HNz
        go_wp2_with fail
        refine (k_set m z HXL.out H2.out).mono ?_
        rintro e W3 ⟨rfl, h3, ho3⟩
        have H3 := Lib.hid h3.none
        clear h3 ho3 H2
        go_wp2
        go_roundw
        case rel => exact ⟨m + 1, m + 1, by omega, by go_num, by go_num, by omega, Nat.le_refl _, Lib.hid (by omega), by rw [← HTS.out]; exact H3⟩
        case measure => simp [intOf]; omega
      · obtain rfl : m = lim := by have := hm.out; omega
        clear hm hM
        have hxl : (zs.take m).length = m := by rw [List.length_take, HZL.out]; omega
        have HXL := Lib.hid hxl
        generalize hxs : zs.take m = xs at *
        have HXS := Lib.hid hxs
        clear hxl hxs
        go_wp2_with fail
        generalize wr.alloc (.cells #[.int .i32 z.l, .int .i32 z.r, .int .i64 z.c, .int .i64 z.s, .int .i64 z.mn, .int .i64 z.mx, .bool z.k] 34) = wz at *
        refine (k_full m HXL.out HMz.out).mono ?_
        rintro e W2 ⟨rfl, h2⟩
        have H2 := Lib.hid (HMz.out.kept h2).none
        clear h2 HMz HNz
        go_wp2
        go_roundw
        case rel => exact ⟨k + 1, m, by omega, by go_num, rfl, Nat.le_refl _, by omega, Lib.hid (by omega), by rw [HXS.out]; exact H2⟩
        case measure => simp [intOf]; omega
    · obtain rfl : k = len := by omega
      have hxl : (zs.take m).length = m := by rw [List.length_take, HZL.out]; omega
      have HXL := Lib.hid hxl
      have HSX := Lib.hid (show ∀ (i : Nat) (z : Nd), (zs.take m)[i]? = some z → zs[i]? = some z from fun i z h => by
        have hi := (List.getElem?_eq_some_iff.1 h).1
        rw [List.getElem?_take_of_lt (by rw [List.length_take] at hi; omega)] at h
        exact h)
      generalize zs.take m = xs at *
      clear hxl hm
      have hNn := HN0.out.keep hM.out.keepW
      obtain ⟨d0, d1, d2, d3, d4, d5, d6⟩ := hNn.cells
      clear hNn
      by_cases hin : 1 ≤ a2 ∧ a2 ≤ (m : Int)
      · obtain ⟨j, rfl⟩ : ∃ j : Nat, a2 = (j : Int) + 1 := ⟨(a2 - 1).toNat, by omega⟩
        have hj : j < m := by omega
        go_wp2_with fail
        refine (my_set j n hM.out (by rw [HXL.out]; exact hj)).mono ?_
        rintro e W5 ⟨rfl, h5, -⟩
        have hlen5 : (xs.set j n).length = m := by rw [List.length_set, HXL.out]
        have H5 := Lib.hid h5
        clear h5
        go_wp2_with fail
        refine (my_nodes 1000 (xs.set j n) H5.out (by decide) (List.take_of_length_le (by omega))).mono ?_
        rintro e W6 ⟨A6, c6, rfl, hrow6, hk6⟩
        have HK6 := Lib.hid ((HK0.out.trans H5.out.keepW).trans hk6)
        have HN6 := Lib.hid (HN0.out.keep (H5.out.keepW.trans hk6))
        have HR6 := Lib.hid (NdS.of_row hrow6)
        clear hrow6 hk6 H5
        rw [hlen5]
        have HL5 := Lib.hid hlen5
        clear hlen5
        go_wp2_with fail
        go_loopw [106] (fun ix wr => ∃ k : Nat, k ≤ m ∧ ix = .int .i64 k ∧ Keep W6 wr) (fun ix _ => m - (intOf ix).toNat)
        case atStart => exact ⟨0, Nat.zero_le _, rfl, Keep.refl _⟩
        case round =>
          obtain ⟨k2, hk2, rfl, hK2⟩ := hrel
          by_cases hlt2 : k2 < m
          · obtain ⟨z, hz⟩ : ∃ z, (xs.set j n)[k2]? = some z := ⟨_, List.getElem?_eq_getElem (by rw [HL5.out]; exact hlt2)⟩
            obtain ⟨y, hy⟩ : ∃ y, zs[k2]? = some y := ⟨_, List.getElem?_eq_getElem (by rw [HZL.out]; omega)⟩
            obtain ⟨bq, oq, rfl, _, _, e0, e1, e2, e3, e4, e5, e6⟩ := (HR6.out.keep hK2) k2 z hz
            obtain ⟨bp, op, rfl, _, _, f0, f1, f2, f3, f4, f5, f6⟩ := (HS.out.keep (HK6.out.trans hK2)) k2 y hy
            have hki : (k2 : Int) < (m : Int) := by omega
            have hki2 : (k2 : Int) < (k : Int) := by omega
            have q := equal_nd z
            rcases set_get xs j k2 n z hz with ⟨ej, ez⟩ | ⟨hne, hx⟩
            · subst ez
              have ht : ((k2 : Int) == (j : Int)) = true := by rw [beq_iff_eq]; omega
              obtain ⟨d0, d1, d2, d3, d4, d5, d6⟩ := (HN6.out.keep hK2).cells
              have hlt3 : w.heap.size < wr.heap.size := (HN6.out.keep hK2).lt
              clear ej hz hy HR6 HS
              go_wp2
              go_roundw
              case rel => exact ⟨k2 + 1, by omega, by go_num, (hK2.alloc _).alloc _⟩
              case measure => simp [intOf]; omega
            · have ez : y = z := Option.some.inj (hy.symm.trans (HSX.out k2 z hx))
              subst ez
              have ht : ((k2 : Int) == (j : Int)) = false := by rw [beq_eq_false_iff_ne]; omega
              clear hne hz hy hx HR6 HS
              go_wp2
              go_roundw
              case rel => exact ⟨k2 + 1, by omega, by go_num, (hK2.alloc _).alloc _⟩
              case measure => simp [intOf]; omega
          · go_wp2
            go_ret
            exact ⟨rfl, HK6.out.trans hK2⟩
      · go_wp2_with fail
        refine (my_setno a2 n hM.out hi2 (by rw [HXL.out]; exact hin)).mono ?_
        rintro e W5 ⟨rfl, h5⟩
        have hlen5 : xs.length = m := HXL.out
        have H5 := Lib.hid (hM.out.kept h5)
        clear h5
        by_cases h21 : a2 < 1
        · clear hin
          go_wp2_with fail
          refine (my_nodes 1000 xs H5.out (by decide) (List.take_of_length_le (by omega))).mono ?_
          rintro e W6 ⟨A6, c6, rfl, hrow6, hk6⟩
          have HK6 := Lib.hid ((HK0.out.trans H5.out.keepW).trans hk6)
          have HN6 := Lib.hid (HN0.out.keep (H5.out.keepW.trans hk6))
          have HR6 := Lib.hid (NdS.of_row hrow6)
          clear hrow6 hk6 H5
          rw [hlen5]
          have HL5 := Lib.hid hlen5
          clear hlen5
          go_wp2_with fail
          go_loopw [106] (fun ix wr => ∃ k : Nat, k ≤ m ∧ ix = .int .i64 k ∧ Keep W6 wr) (fun ix _ => m - (intOf ix).toNat)
          case atStart => exact ⟨0, Nat.zero_le _, rfl, Keep.refl _⟩
          case round =>
            obtain ⟨k2, hk2, rfl, hK2⟩ := hrel
            by_cases hlt2 : k2 < m
            · obtain ⟨z, hz⟩ : ∃ z, xs[k2]? = some z := ⟨_, List.getElem?_eq_getElem (by rw [HL5.out]; exact hlt2)⟩
              obtain ⟨y, hy⟩ : ∃ y, zs[k2]? = some y := ⟨_, List.getElem?_eq_getElem (by rw [HZL.out]; omega)⟩
              obtain ⟨bq, oq, rfl, _, _, e0, e1, e2, e3, e4, e5, e6⟩ := (HR6.out.keep hK2) k2 z hz
              obtain ⟨bp, op, rfl, _, _, f0, f1, f2, f3, f4, f5, f6⟩ := (HS.out.keep (HK6.out.trans hK2)) k2 y hy
              have hki : (k2 : Int) < (m : Int) := by omega
              have hki2 : (k2 : Int) < (k : Int) := by omega
              have q := equal_nd z
              have ez : y = z := Option.some.inj (hy.symm.trans (HSX.out k2 z hz))
              subst ez
              clear hz hy HR6 HS
              go_wp2
              go_roundw
              case rel => exact ⟨k2 + 1, by omega, by go_num, (hK2.alloc _).alloc _⟩
              case measure => simp [intOf]; omega
            · go_wp2
              go_ret
              exact ⟨rfl, HK6.out.trans hK2⟩
        · have h21' : 1 ≤ a2 := by omega
          have h22 : decide (a2 ≤ (m : Int)) = false := decide_eq_false (by omega)
          clear hin h21
          go_wp2_with fail
          refine (my_nodes 1000 xs H5.out (by decide) (List.take_of_length_le (by omega))).mono ?_
          rintro e W6 ⟨A6, c6, rfl, hrow6, hk6⟩
          have HK6 := Lib.hid ((HK0.out.trans H5.out.keepW).trans hk6)
          have HN6 := Lib.hid (HN0.out.keep (H5.out.keepW.trans hk6))
          have HR6 := Lib.hid (NdS.of_row hrow6)
          clear hrow6 hk6 H5
          rw [hlen5]
          have HL5 := Lib.hid hlen5
          clear hlen5
          go_wp2_with fail
          go_loopw [106] (fun ix wr => ∃ k : Nat, k ≤ m ∧ ix = .int .i64 k ∧ Keep W6 wr) (fun ix _ => m - (intOf ix).toNat)
          case atStart => exact ⟨0, Nat.zero_le _, rfl, Keep.refl _⟩
          case round =>
            obtain ⟨k2, hk2, rfl, hK2⟩ := hrel
            by_cases hlt2 : k2 < m
            · obtain ⟨z, hz⟩ : ∃ z, xs[k2]? = some z := ⟨_, List.getElem?_eq_getElem (by rw [HL5.out]; exact hlt2)⟩
              obtain ⟨y, hy⟩ : ∃ y, zs[k2]? = some y := ⟨_, List.getElem?_eq_getElem (by rw [HZL.out]; omega)⟩
              obtain ⟨bq, oq, rfl, _, _, e0, e1, e2, e3, e4, e5, e6⟩ := (HR6.out.keep hK2) k2 z hz
              obtain ⟨bp, op, rfl, _, _, f0, f1, f2, f3, f4, f5, f6⟩ := (HS.out.keep (HK6.out.trans hK2)) k2 y hy
              have hki : (k2 : Int) < (m : Int) := by omega
              have hki2 : (k2 : Int) < (k : Int) := by omega
              have q := equal_nd z
              have ez : y = z := Option.some.inj (hy.symm.trans (HSX.out k2 z hz))
              subst ez
              clear hz hy HR6 HS
              go_wp2
              go_roundw
              case rel => exact ⟨k2 + 1, by omega, by go_num, (hK2.alloc _).alloc _⟩
              case measure => simp [intOf]; omega
            · go_wp2
              go_ret
              exact ⟨rfl, HK6.out.trans hK2⟩
theorem ArenaKeeps_std (a0 : Int) (_ : (Lit.int .i64 a0).wf = true) (A : Option Addr) (len cap : Nat) (zs : List Nd) (a2 : Int) (w2 : (Lit.int .i32 a2).wf = true) (n : Nd) (w : World) (row : NdArg w A len zs) (_ : True) :
    Calls Try.prog 4 #[.int .i64 a0, .slice A len cap, .int .i32 a2, .agg #[.int .i32 n.l, .int .i32 n.r, .int .i64 n.c, .int .i64 n.s, .int .i64 n.mn, .int .i64 n.mx, .bool n.k]] w fun e w' => e = .returned (.bool true) ∧ Below w.heap.size w w' := keeps_law a0 A len cap zs a2 n w (bounds_i32 w2) row
end Go.Proofs.Ytdnhgfbchddabab
