/- agg.Of: what is told of all values. -/
import Derived.Test.YtglokhpgjfoneacAggFn
namespace Go.Proofs.Ytglokhpgjfoneac
open Go.RowKit

theorem AgAt.only {w w' : World} {S : Nat → Prop} {b : Nat} {a : Ag} (h : AgAt w b a) (ho : Only S w w') (hb : ¬ S b) : AgAt w' b a := (ho.block b h.lt hb).trans h
theorem vals_get {zs : List Int} {j : Nat} {v : Int} (h : zs[j]? = some v) : (vals .i64 zs).getD j undef = .int .i64 v := by
  simp [vals, List.getD_eq_getElem?_getD, h]
theorem take_succ {zs : List Int} {j : Nat} {v : Int} (h : zs[j]? = some v) : zs.take (j + 1) = zs.take j ++ [v] := by
  rw [List.take_add_one, h]; rfl
theorem ofL_take {zs : List Int} {j : Nat} {v : Int} (h : zs[j]? = some v) : mrg (ofL (zs.take j)) (one1 v) = ofL (zs.take (j + 1)) := by
  rw [take_succ h, ofL_snoc]

set_option maxRecDepth 100000 in
set_option maxHeartbeats 2000000 in
theorem of_any (A : Option Addr) (n c : Nat) (zs : List Int) (w : World) (h : Lies w w.heap.size A n (vals .i64 zs)) (hn : n ≤ 1000000) :
    Calls Try.prog 13 #[.slice A n c] w fun e w' => e = .returned (.agg #[.int .i64 (ofL zs).c, .int .i64 (ofL zs).s, .int .i64 (ofL zs).mn, .int .i64 (ofL zs).mx]) ∧ Keep w w' := by
  have hl : zs.length = n := by have := h.1; rwa [vals_length] at this
  have HL := Lib.hid hl
  have H := Lib.hid h
  clear h hl
  have hn6 : (n : Int) ≤ 1000000 := by omega
  obtain ⟨h0, h1⟩ : AgAt ((w.alloc (.cells #[.int .i64 0, .int .i64 0, .int .i64 0, .int .i64 0] 24)).alloc (.cells #[.int .i64 0, .int .i64 0, .int .i64 0, .int .i64 0] 24)) w.heap.size nil0 ∧ AgAt ((w.alloc (.cells #[.int .i64 0, .int .i64 0, .int .i64 0, .int .i64 0] 24)).alloc (.cells #[.int .i64 0, .int .i64 0, .int .i64 0, .int .i64 0] 24)) (w.heap.size + 1) nil0 := by
    have e1 := (AgAt.new w nil0).keep ((Keep.refl _).alloc (.cells #[.int .i64 nil0.c, .int .i64 nil0.s, .int .i64 nil0.mn, .int .i64 nil0.mx] 24))
    have e2 := AgAt.new (w.alloc (.cells #[.int .i64 nil0.c, .int .i64 nil0.s, .int .i64 nil0.mn, .int .i64 nil0.mx] 24)) nil0
    rw [show (w.alloc (.cells #[.int .i64 nil0.c, .int .i64 nil0.s, .int .i64 nil0.mn, .int .i64 nil0.mx] 24)).heap.size = w.heap.size + 1 by simp] at e2
    exact ⟨e1, e2⟩
  have hk0 := ((Keep.refl w).alloc (.cells #[.int .i64 0, .int .i64 0, .int .i64 0, .int .i64 0] 24)).alloc (.cells #[.int .i64 0, .int .i64 0, .int .i64 0, .int .i64 0] 24)
  go_enter Try.func13, Try.ntmps13
  go_wp2_with fail
  generalize (w.alloc (.cells #[.int .i64 0, .int .i64 0, .int .i64 0, .int .i64 0] 24)).alloc (.cells #[.int .i64 0, .int .i64 0, .int .i64 0, .int .i64 0] 24) = W0 at *
  go_loopw [8] (fun i wr => ∃ (j : Nat), j ≤ n ∧ i = .int .i64 j ∧ Keep w wr ∧ AgAt wr w.heap.size nil0 ∧ AgAt wr (w.heap.size + 1) (ofL (zs.take j))) (fun i _ => n - (intOf i).toNat)
  case atStart => exact ⟨0, Nat.zero_le _, rfl, hk0, h0, h1⟩
  case round =>
    obtain ⟨j, hj, rfl, hk, k0, k1⟩ := hrel
    have K0 := Lib.hid k0
    have K1 := Lib.hid k1
    clear k0 k1 h0 h1
    by_cases hlt : j < n
    · obtain ⟨v, hv⟩ : ∃ v, zs[j]? = some v := ⟨_, List.getElem?_eq_getElem (by rw [HL.out]; exact hlt)⟩
      obtain ⟨b, off, e, hb, hc⟩ := H.out.2 (by omega)
      subst e
      have c0 : wr.cell? ⟨b, off + j, none⟩ = some (.int .i64 v) := by
        rw [hk.cell (p := ⟨b, off + j, none⟩) hb, hc j hlt, vals_get hv]
      clear hc
      have hjm : (j : Int) < (n : Int) := by omega
      have HT := Lib.hid (ofL_take hv)
      clear hv
      obtain ⟨q, hq⟩ : ∃ q, ofL (zs.take (j + 1)) = q := ⟨_, rfl⟩
      rw [hq] at HT
      have HQ := Lib.hid hq
      clear hq
      generalize ofL (zs.take j) = p at *
      obtain ⟨a0, a1, a2, a3⟩ := K1.out.cells
      go_wp2_with fail
      go_region_with (first
        | (go_at_call 17; refine (one_any _ _).mono ?_; rintro e w1 ⟨rfl, hk1⟩; obtain ⟨d0, d1, d2, d3⟩ := (K1.out.keep ((Keep.refl _).drew.trans hk1)).cells)
        | (go_at_call 15; refine (merge_any p (one1 v) _).mono ?_; rw [HT.out]; rintro e w2 ⟨rfl, hk2⟩; obtain ⟨f0, f1, f2, f3⟩ := (K1.out.keep (((Keep.refl _).drew.trans hk1).trans hk2)).free; obtain ⟨g0, g1, g2, g3⟩ := (K1.out.keep (((Keep.refl _).drew.trans hk1).trans hk2)).cells))
      all_goals
        have hK := ((Keep.refl wr).drew.trans hk1).trans hk2
        clear a0 a1 a2 a3 d0 d1 d2 d3 f0 f1 f2 f3 g0 g1 g2 g3
        go_wp2_with fail
        go_roundw
        case rel =>
          exact ⟨j + 1, hlt, by go_num, set_keep (hk.trans hK) (by omega), (K0.out.keep hK).only (set_only (S := fun k => k = w.heap.size + 1) (Only.refl _ _) rfl) (fun h => by omega), by rw [HQ.out]; exact set_at (K1.out.keep hK) q.c q.s q.mn q.mx⟩
        case measure => simp [intOf]; omega
    · obtain rfl : j = n := by omega
      have hf : zs.take j = zs := List.take_of_length_le (by rw [HL.out]; exact Nat.le_refl _)
      rw [hf] at K1
      have HF := Lib.hid hf
      clear hf hj
      obtain ⟨a0, a1, a2, a3⟩ := K1.out.cells
      obtain ⟨b0, b1, b2, b3⟩ := K0.out.cells
      obtain ⟨f0, f1, f2, f3⟩ := K0.out.free
      obtain ⟨q, hq⟩ : ∃ q, ofL zs = q := ⟨_, rfl⟩
      rw [hq] at a0 a1 a2 a3
      have HQ := Lib.hid hq
      clear hq
      go_wp2
      exact bodyPost_ret (v := .agg #[.int .i64 q.c, .int .i64 q.s, .int .i64 q.mn, .int .i64 q.mx]) (by simp [results, Try.results13, go_sem, b0, b1, b2, b3]) rfl ⟨ret_ag HQ.out.symm, set_keep hk (Nat.le_refl _)⟩
end Go.Proofs.Ytglokhpgjfoneac
