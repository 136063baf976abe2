/- ivl.Not: the walk. -/
import Derived.Test.YtmdhbbibghpijaaDoorIvlNot
namespace Go.Proofs.YtmdhbbibghpijaaDoor
open Go.RowKit

theorem Ng.last {r : List Sp} {j : Nat} {gs' : List Sp} {x : Sp} (hr : Rt r) (hall : ∀ s ∈ r, s.ok) (hx : r[j]? = some x) (hh : x.hi = 4294967295)
    (hm : ∀ k, mem gs' k ↔ (0 ≤ k ∧ k < x.lo ∧ ¬ mem (r.take j) k)) (k : Int) : mem gs' k ↔ (isKey k ∧ ¬ mem r k) := by
  obtain ⟨e1, e2⟩ := take_snoc hx
  have hxok := hall x (List.mem_of_getElem? hx)
  obtain ⟨⟨o1, o2⟩, o3, o4⟩ := hxok
  have hnil : r.drop (j + 1) = [] := by
    apply List.eq_nil_iff_forall_not_mem.2
    intro y hy
    have hp : (r.drop j).Pairwise (fun a b : Sp => a.hi + 1 < b.lo) := hr.2.sublist (List.drop_sublist j r)
    rw [e2] at hp
    have h1 := (List.pairwise_cons.1 hp).1 y hy
    have h2 := (hall y (List.mem_of_mem_drop hy)).1.2
    omega
  have hsplit : mem r k ↔ mem (r.take j) k ∨ inS x k := by
    conv => lhs; rw [← List.take_append_drop j r, e2, hnil]
    rw [mem_append, mem_cons]
    simp only [mem_nil, or_false]
  rw [hm k, hsplit]
  unfold isKey inS
  constructor
  · rintro ⟨h1, h2, h3⟩
    exact ⟨⟨h1, by omega⟩, fun h => by rcases h with h | h
                                       · exact h3 h
                                       · omega⟩
  · rintro ⟨⟨h1, h2⟩, h3⟩
    refine ⟨h1, ?_, fun h => h3 (.inl h)⟩
    apply Int.lt_of_not_ge
    intro h4
    exact h3 (.inr ⟨h4, by omega⟩)
theorem Ng.fin {r : List Sp} {gs : List Sp} {f : Int} (h : Ng r r.length gs f) : IsSet (gs ++ [⟨f, 4294967295⟩]) (fun k => isKey k ∧ ¬ mem r k) := by
  have hb := h.bd
  have ht : r.take r.length = r := List.take_of_length_le (Nat.le_refl _)
  refine ⟨rt_snoc h.rt (by show f ≤ 4294967295; omega) (fun s hs => h.low s hs), fun k => ?_, fun s hs => ?_⟩
  · have h1 := h.keys k
    have h2 := h.done k
    rw [ht] at h1 h2
    rw [mem_append, h1, mem_cons]
    simp only [mem_nil, or_false]
    unfold isKey inS
    constructor
    · rintro (⟨g1, g2, g3⟩ | ⟨g1, g2⟩)
      · exact ⟨⟨g1, by omega⟩, g3⟩
      · simp only at g1 g2
        exact ⟨⟨by omega, g2⟩, fun hm => by have := h2 hm; omega⟩
    · rintro ⟨⟨g1, g2⟩, g3⟩
      by_cases hk : k < f
      · exact .inl ⟨g1, hk, g3⟩
      · exact .inr ⟨by simp only; omega, by simp only; omega⟩
  · rcases List.mem_append.1 hs with h1 | h1
    · exact h.ok s h1
    · obtain rfl : s = ⟨f, 4294967295⟩ := by simpa using h1
      exact ⟨⟨by show 0 ≤ f; omega, by show f ≤ _; omega⟩, by show (0 : Int) ≤ 4294967295; decide, by show (4294967295 : Int) ≤ 4294967295; decide⟩

set_option maxRecDepth 100000 in
set_option maxHeartbeats 4000000 in
theorem not_any (A : Option Addr) (n c : Nat) (zs : List Sp) (w : World) (h : Arg w A n c zs) (hn : n ≤ 50000) :
    Calls Tryd.prog 61 #[.slice A n c] w (Gives w (fun k => isKey k ∧ ¬ mem zs k) (n + 1)) := by
  have HA := Lib.hid h
  obtain ⟨i0, hi, hz0, hz1, hz2⟩ := info_parts infoSp
  clear h
  go_enter Tryd.func61, Tryd.ntmps61
  go_wp2_with fail
  go_at_call 60
  refine (setof_any A n c zs w HA.out (by omega)).mono ?_
  intro e w1 hg
  obtain ⟨hk1, A1, c1, r, rfl, ha1, hr1, hs1⟩ := hg
  have HP := Lib.hid ha1.prs
  have HS := Lib.hid hs1
  obtain ⟨m, hm⟩ : ∃ m, r.length = m := ⟨_, rfl⟩
  rw [hm] at HP hr1 ⊢
  have HM := Lib.hid hm
  have hm6 : (m : Int) ≤ 50000 := by omega
  clear ha1 hs1 hm
  have oN : Own w1 w1.heap.size none 0 0 [] := ⟨by simp [prc], .inl ⟨rfl, rfl⟩⟩
  have hst := Ng.start r HS.out.ok
  go_wp2_with fail
  go_loopw [3, 4, 10] (fun v u i wr => ∃ (j : Nat) (gs : List Sp) (f : Int) (A' : Option Addr) (c' : Nat), j ≤ m ∧ i = .int .i64 j ∧ v = .slice A' gs.length c' ∧ u = .int .u32 f ∧ Own wr w1.heap.size A' gs.length c' gs ∧ Keep w1 wr ∧ Ng r j gs f) (fun _ _ i _ => m - (intOf i).toNat)
  case atStart => exact ⟨0, [], 0, none, 0, Nat.zero_le _, rfl, rfl, rfl, oN, Keep.refl _, hst⟩
  case round =>
    obtain ⟨j, gs, f, A', c', hj, rfl, rfl, rfl, hown, hk, hng⟩ := hrel
    have HOWN := Lib.hid hown
    have hgj : gs.length ≤ j := hng.num
    have HNG := Lib.hid hng
    clear hown hng hst oN
    by_cases hlt : j < m
    · obtain ⟨x, hx⟩ : ∃ x, r[j]? = some x := ⟨_, List.getElem?_eq_getElem (by rw [HM.out]; exact hlt)⟩
      have hxok := HS.out.ok x (List.mem_of_getElem? hx)
      have hxe := HS.out.rt.1 x (List.mem_of_getElem? hx)
      obtain ⟨b, off, e, hb, c0, c1⟩ := SpS.cells (HP.out.keep hk (Nat.le_refl _)) j x hx
      subst e
      have HX := Lib.hid hx
      have hfx : f ≤ x.lo := HNG.out.next x (by rw [(take_snoc hx).2]; simp)
      have hfb := HNG.out.bd
      obtain ⟨⟨o1, o2⟩, o3, o4⟩ := id hxok
      have hjm : (j : Int) < (m : Int) := by omega
      have hkw : Keep wr (wr.alloc (.cells #[.int .u32 x.lo, .int .u32 x.hi] 37)) := (Keep.refl wr).alloc _
      obtain ⟨d0, d1⟩ := (SpAt.new wr x).cells
      have HXC := Lib.hid (SpAt.new wr x)
      clear hx
      by_cases hgap : f < x.lo
      · by_cases hlast : x.hi = 4294967295
        · have hw1 : IntKind.u32.wrap (x.lo - 1) = x.lo - 1 := by rw [IntKind.wrap_u32]; omega
          obtain ⟨g1, g2, g3⟩ := HNG.out.gap hxok hgap
          have HG := Lib.hid (And.intro g1 (And.intro g2 g3))
          have hml : gs.length + 1 ≤ maxLen := by unfold maxLen; omega
          have hby : (gs.length + 1) * 8 ≤ 140737488355328 := by omega
          have hk5 := hkw.alloc (.cells #[.int .u32 f, .int .u32 (x.lo - 1)] 37)
          have hbs : w1.heap.size ≤ ((wr.alloc (.cells #[.int .u32 x.lo, .int .u32 x.hi] 37)).alloc (.cells #[.int .u32 f, .int .u32 (x.lo - 1)] 37)).heap.size := (hk.trans hk5).size
          have HO5 := Lib.hid (own_keep HOWN.out hk5)
          have hp5 := Prs.made (f := fun s : Sp => Value.int .u32 s.lo) (g := fun s : Sp => Value.int .u32 s.hi) (wr.alloc (.cells #[.int .u32 x.lo, .int .u32 x.hi] 37)) #[.int .u32 f, .int .u32 (x.lo - 1)] 37 [⟨f, x.lo - 1⟩] rfl
          rw [show (wr.alloc (.cells #[.int .u32 x.lo, .int .u32 x.hi] 37)).heap.size = wr.heap.size + 1 by simp] at hp5
          have HP5 := Lib.hid hp5
          have HBX := Lib.hid (HXC.out.keep ((Keep.refl _).alloc (.cells #[.int .u32 f, .int .u32 (x.lo - 1)] 37)))
          clear g1 g2 g3 hp5
          have hbq : (x.hi == 4294967295) = true := by rw [beq_iff_eq]; exact hlast
          have HLAST := Lib.hid hlast
          clear hlast
          go_wp2_with (first
            | (at_builtin; go_must (refine wpList_append_prs rfl _ _ 32 rfl w1.heap.size 37 i0 (.agg #[.int .u32 0, .int .u32 0]) 8 Tryd.underlying32 hi hz0 hz1 hz2 rfl spOne _ gs.length gs rfl HO5.out _ _ 1 1 [⟨f, x.lo - 1⟩] rfl HP5.out (fun h => by cases h) hml hby hbs ?_); intro A2 c2' w5 hown5 hgrow5 _; obtain ⟨b0, b1⟩ := (SpAt.grown HBX.out hgrow5 (fun e => by have := (HOWN.out.lt _ e).2; omega)).cells))
          have hK5 := Only.keep (hk.trans hk5) (Only.grown (S := fun k => w1.heap.size ≤ k) (Only.refl _ _) hgrow5 (fun k _ e => (HOWN.out.lt k e).1)) (fun k e => e)
          have hO5 : Own w5 w1.heap.size A2 (gs ++ [(⟨f, x.lo - 1⟩ : Sp)]).length c2' (gs ++ [⟨f, x.lo - 1⟩]) := by simpa using hown5
          go_wp2_with fail
          go_ret
          obtain ⟨q1, q2, q3⟩ := own_gives hO5
          have hl5 : (gs ++ [(⟨f, x.lo - 1⟩ : Sp)]).length = gs.length + 1 := by simp
          rw [← hl5]
          exact ⟨hk1.trans hK5, A2, c2', gs ++ [⟨f, x.lo - 1⟩], rfl, q1, q2, q3.mono hk1.size, by rw [hl5]; omega, HG.out.1, fun k => by rw [Ng.last HS.out.rt HS.out.ok HX.out HLAST.out HG.out.2.2 k, HS.out.mem k], HG.out.2.1⟩
        · have hw1 : IntKind.u32.wrap (x.lo - 1) = x.lo - 1 := by rw [IntKind.wrap_u32]; omega
          obtain ⟨g1, g2, g3⟩ := HNG.out.gap hxok hgap
          have HG := Lib.hid (And.intro g1 (And.intro g2 g3))
          have hml : gs.length + 1 ≤ maxLen := by unfold maxLen; omega
          have hby : (gs.length + 1) * 8 ≤ 140737488355328 := by omega
          have hk5 := hkw.alloc (.cells #[.int .u32 f, .int .u32 (x.lo - 1)] 37)
          have hbs : w1.heap.size ≤ ((wr.alloc (.cells #[.int .u32 x.lo, .int .u32 x.hi] 37)).alloc (.cells #[.int .u32 f, .int .u32 (x.lo - 1)] 37)).heap.size := (hk.trans hk5).size
          have HO5 := Lib.hid (own_keep HOWN.out hk5)
          have hp5 := Prs.made (f := fun s : Sp => Value.int .u32 s.lo) (g := fun s : Sp => Value.int .u32 s.hi) (wr.alloc (.cells #[.int .u32 x.lo, .int .u32 x.hi] 37)) #[.int .u32 f, .int .u32 (x.lo - 1)] 37 [⟨f, x.lo - 1⟩] rfl
          rw [show (wr.alloc (.cells #[.int .u32 x.lo, .int .u32 x.hi] 37)).heap.size = wr.heap.size + 1 by simp] at hp5
          have HP5 := Lib.hid hp5
          have HBX := Lib.hid (HXC.out.keep ((Keep.refl _).alloc (.cells #[.int .u32 f, .int .u32 (x.lo - 1)] 37)))
          clear g1 g2 g3 hp5
          have hbq : (x.hi == 4294967295) = false := by rw [beq_eq_false_iff_ne]; exact hlast
          have hh : x.hi < 4294967295 := by omega
          have hw2 : IntKind.u32.wrap (x.hi + 1) = x.hi + 1 := by rw [IntKind.wrap_u32]; omega
          clear hlast
          go_wp2_with (first
            | (at_builtin; go_must (refine wpList_append_prs rfl _ _ 32 rfl w1.heap.size 37 i0 (.agg #[.int .u32 0, .int .u32 0]) 8 Tryd.underlying32 hi hz0 hz1 hz2 rfl spOne _ gs.length gs rfl HO5.out _ _ 1 1 [⟨f, x.lo - 1⟩] rfl HP5.out (fun h => by cases h) hml hby hbs ?_); intro A2 c2' w5 hown5 hgrow5 _; obtain ⟨b0, b1⟩ := (SpAt.grown HBX.out hgrow5 (fun e => by have := (HOWN.out.lt _ e).2; omega)).cells))
          have hK5 := Only.keep (hk.trans hk5) (Only.grown (S := fun k => w1.heap.size ≤ k) (Only.refl _ _) hgrow5 (fun k _ e => (HOWN.out.lt k e).1)) (fun k e => e)
          have hO5 : Own w5 w1.heap.size A2 (gs ++ [(⟨f, x.lo - 1⟩ : Sp)]).length c2' (gs ++ [⟨f, x.lo - 1⟩]) := by simpa using hown5
          have hng5 := HNG.out.step HS.out.rt HX.out hxok hxe hh HG.out.1 HG.out.2.1 (by rw [List.length_append]; simp; omega) HG.out.2.2 (fun s hs => by
            rcases List.mem_append.1 hs with h1 | h1
            · have := HNG.out.low s h1; omega
            · obtain rfl : s = ⟨f, x.lo - 1⟩ := by simpa using h1
              show x.lo - 1 + 1 ≤ x.lo
              omega)
          go_wp2_with fail
          go_roundw
          case rel => exact ⟨j + 1, gs ++ [⟨f, x.lo - 1⟩], x.hi + 1, A2, c2', hlt, by go_num, by simp, rfl, hO5, hK5, hng5⟩
          case measure => simp [intOf]; omega
      · by_cases hlast : x.hi = 4294967295
        · have hfe : f = x.lo := by omega
          have hdn : decide (x.lo > f) = false := by simp; omega
          have HGK := Lib.hid (show ∀ k, mem gs k ↔ (0 ≤ k ∧ k < x.lo ∧ ¬ mem (r.take j) k) from fun k => by rw [← hfe]; exact HNG.out.keys k)
          clear hfe
          have hbq : (x.hi == 4294967295) = true := by rw [beq_iff_eq]; exact hlast
          have HLAST := Lib.hid hlast
          clear hlast
          go_wp2_with fail
          go_ret
          obtain ⟨q1, q2, q3⟩ := own_gives (own_keep HOWN.out hkw)
          exact ⟨(hk1.trans hk).trans hkw, A', c', gs, rfl, q1, q2, q3.mono hk1.size, by omega, HNG.out.rt, fun k => by rw [Ng.last HS.out.rt HS.out.ok HX.out HLAST.out HGK.out k, HS.out.mem k], HNG.out.ok⟩
        · have hfe : f = x.lo := by omega
          have hdn : decide (x.lo > f) = false := by simp; omega
          have HGK := Lib.hid (show ∀ k, mem gs k ↔ (0 ≤ k ∧ k < x.lo ∧ ¬ mem (r.take j) k) from fun k => by rw [← hfe]; exact HNG.out.keys k)
          clear hfe
          have hbq : (x.hi == 4294967295) = false := by rw [beq_eq_false_iff_ne]; exact hlast
          have hh : x.hi < 4294967295 := by omega
          have hw2 : IntKind.u32.wrap (x.hi + 1) = x.hi + 1 := by rw [IntKind.wrap_u32]; omega
          clear hlast
          have hng5 := HNG.out.step HS.out.rt HX.out hxok hxe hh HNG.out.rt HNG.out.ok (by omega) HGK.out (fun s hs => by have := HNG.out.low s hs; omega)
          go_wp2_with fail
          go_roundw
          case rel => exact ⟨j + 1, gs, x.hi + 1, A', c', hlt, by go_num, rfl, rfl, own_keep HOWN.out hkw, hk.trans hkw, hng5⟩
          case measure => simp [intOf]; omega
    · obtain rfl : j = m := by omega
      have hfi := HNG.out
      rw [← HM.out] at hfi
      have HFI := Lib.hid hfi.fin
      have hml : gs.length + 1 ≤ maxLen := by unfold maxLen; omega
      have hby : (gs.length + 1) * 8 ≤ 140737488355328 := by omega
      have hk5 := (Keep.refl wr).alloc (.cells #[.int .u32 f, .int .u32 4294967295] 37)
      have hbs : w1.heap.size ≤ (wr.alloc (.cells #[.int .u32 f, .int .u32 4294967295] 37)).heap.size := (hk.trans hk5).size
      have HO5 := Lib.hid (own_keep HOWN.out hk5)
      have HP5 := Lib.hid (Prs.made (f := fun s : Sp => Value.int .u32 s.lo) (g := fun s : Sp => Value.int .u32 s.hi) wr #[.int .u32 f, .int .u32 4294967295] 37 [⟨f, 4294967295⟩] rfl)
      clear hfi
      go_wp2_with (first
        | (at_builtin; go_must (refine wpList_append_prs rfl _ _ 32 rfl w1.heap.size 37 i0 (.agg #[.int .u32 0, .int .u32 0]) 8 Tryd.underlying32 hi hz0 hz1 hz2 rfl spOne _ gs.length gs rfl HO5.out _ _ 1 1 [⟨f, 4294967295⟩] rfl HP5.out (fun h => by cases h) hml hby hbs ?_); intro A2 c2' w5 hown5 hgrow5 _))
      have hK5 := Only.keep (hk.trans hk5) (Only.grown (S := fun k => w1.heap.size ≤ k) (Only.refl _ _) hgrow5 (fun k _ e => (HOWN.out.lt k e).1)) (fun k e => e)
      have hO5 : Own w5 w1.heap.size A2 (gs ++ [(⟨f, 4294967295⟩ : Sp)]).length c2' (gs ++ [⟨f, 4294967295⟩]) := by simpa using hown5
      have hl5 : (gs ++ [(⟨f, 4294967295⟩ : Sp)]).length = gs.length + 1 := by simp
      go_wp2_with fail
      go_ret
      obtain ⟨q1, q2, q3⟩ := own_gives hO5
      rw [← hl5]
      exact ⟨hk1.trans hK5, A2, c2', gs ++ [⟨f, 4294967295⟩], rfl, q1, q2, q3.mono hk1.size, by rw [hl5]; omega, HFI.out.congr (fun k => by rw [HS.out.mem k])⟩
end Go.Proofs.YtmdhbbibghpijaaDoor
