/- The document's own Of of agg. -/
import Derived.Test.YtopengbflnoneaaAggOf
import Derived.Test.YtopengbflnoneaaSeq
namespace Go.Proofs.Ytopengbflnoneaa
open Go.RowKit

theorem ofL_first {zs : List Int} {v : Int} (h : zs[0]? = some v) : ofL (zs.take 1) = one1 v := by
  have := ofL_take h
  rw [← this]
  exact mrg_ox (show (0 : Int) < 1 by decide) (show ¬ (1 : Int) < 1 by decide)
theorem ofL_next {zs : List Int} {j : Nat} {v : Int} (h : zs[j]? = some v) (hj : 0 < j) (hl : zs.length ≤ 1000000) (hz : ∀ z ∈ zs, inI z) : ofL (zs.take (j + 1)) = ⟨((j + 1 : Nat) : Int), wrap64 ((ofL (zs.take j)).s + v), min (ofL (zs.take j)).mn v, max (ofL (zs.take j)).mx v⟩ := by
  have hj2 := (List.getElem?_eq_some_iff.1 h).1
  have hi := isOf (zs.take j) (by simp; omega) (fun z hm => hz z (List.mem_of_mem_take hm))
  have hc : (ofL (zs.take j)).c = j := by rw [hi.c]; simp; omega
  rw [← ofL_take h, mrg_xx (by omega) (show ¬ (1 : Int) < 1 by decide)]
  unfold both
  rw [hc, show wrap64 ((j : Int) + (one1 v).c) = ((j + 1 : Nat) : Int) by rw [wr_id] <;> (simp [one1, inI]; try omega)]
  rfl
theorem nil_s : (ofL ([] : List Int)).s = 0 := rfl

theorem set_s {w : World} {b : Nat} {a : Ag} (h : AgAt w b a) (s : Int) : AgAt (w.setCell ⟨b, 1, none⟩ (.int .i64 s)).drew b ⟨a.c, s, a.mn, a.mx⟩ := by
  unfold AgAt at *
  simp only [World.setCell, World.drew, Array.getElem?_modify, h, if_true, Option.map_some]
  rfl
theorem set_mn {w : World} {b : Nat} {a : Ag} (h : AgAt w b a) (s : Int) : AgAt (w.setCell ⟨b, 2, none⟩ (.int .i64 s)) b ⟨a.c, a.s, s, a.mx⟩ := by
  unfold AgAt at *
  simp only [World.setCell, Array.getElem?_modify, h, if_true, Option.map_some]
  rfl
theorem set_mx {w : World} {b : Nat} {a : Ag} (h : AgAt w b a) (s : Int) : AgAt (w.setCell ⟨b, 3, none⟩ (.int .i64 s)) b ⟨a.c, a.s, a.mn, s⟩ := by
  unfold AgAt at *
  simp only [World.setCell, Array.getElem?_modify, h, if_true, Option.map_some]
  rfl

set_option maxRecDepth 100000 in
set_option maxHeartbeats 4000000 in
theorem rof_any (A : Option Addr) (n c : Nat) (zs : List Int) (w : World) (h : Lies w w.heap.size A n (vals .i64 zs)) (hn : n ≤ 1000000) (hz : ∀ z ∈ zs, inI z) :
    Calls Try.prog 27 #[.slice A n c] w fun e w' => e = .returned (.agg #[.int .i64 (ofL zs).c, .int .i64 (ofL zs).s, .int .i64 (ofL zs).mn, .int .i64 (ofL zs).mx]) ∧ Keep w w' := by
  have hl : zs.length = n := by have := h.1; rwa [vals_length] at this
  have HL := Lib.hid hl
  have H := Lib.hid h
  have HZ := Lib.hid hz
  clear h hl hz
  have hn6 : (n : Int) ≤ 1000000 := by omega
  obtain ⟨h0, h1⟩ : AgAt ((w.alloc (.cells #[.int .i64 0, .int .i64 0, .int .i64 0, .int .i64 0] 38)).alloc (.cells #[.int .i64 n, .int .i64 0, .int .i64 0, .int .i64 0] 38)) w.heap.size nil0 ∧ AgAt ((w.alloc (.cells #[.int .i64 0, .int .i64 0, .int .i64 0, .int .i64 0] 38)).alloc (.cells #[.int .i64 n, .int .i64 0, .int .i64 0, .int .i64 0] 38)) (w.heap.size + 1) ⟨n, 0, 0, 0⟩ := by
    have e1 := (AgAt.new w nil0).keep ((Keep.refl _).alloc (.cells #[.int .i64 n, .int .i64 0, .int .i64 0, .int .i64 0] 38))
    have e2 := AgAt.new (w.alloc (.cells #[.int .i64 nil0.c, .int .i64 nil0.s, .int .i64 nil0.mn, .int .i64 nil0.mx] 38)) ⟨n, 0, 0, 0⟩
    rw [show (w.alloc (.cells #[.int .i64 nil0.c, .int .i64 nil0.s, .int .i64 nil0.mn, .int .i64 nil0.mx] 38)).heap.size = w.heap.size + 1 by simp] at e2
    exact ⟨e1, e2⟩
  have hk0 := ((Keep.refl w).alloc (.cells #[.int .i64 0, .int .i64 0, .int .i64 0, .int .i64 0] 38)).alloc (.cells #[.int .i64 n, .int .i64 0, .int .i64 0, .int .i64 0] 38)
  go_enter Try.func27, Try.ntmps27
  go_wp2_with fail
  generalize (w.alloc (.cells #[.int .i64 0, .int .i64 0, .int .i64 0, .int .i64 0] 38)).alloc (.cells #[.int .i64 n, .int .i64 0, .int .i64 0, .int .i64 0] 38) = W0 at *
  go_loopw [4] (fun i wr => ∃ (j : Nat), j ≤ n ∧ i = .int .i64 j ∧ Keep w wr ∧ AgAt wr w.heap.size nil0 ∧ AgAt wr (w.heap.size + 1) ⟨n, (ofL (zs.take j)).s, (ofL (zs.take j)).mn, (ofL (zs.take j)).mx⟩) (fun i _ => n - (intOf i).toNat)
  case atStart => exact ⟨0, Nat.zero_le _, rfl, hk0, h0, h1⟩
  case round =>
    obtain ⟨j, hj, rfl, hk, k0, k1⟩ := hrel
    have K0 := Lib.hid k0
    have K1 := Lib.hid k1
    clear k0 k1 h0 h1
    by_cases hlt : j < n
    · obtain ⟨v, hv⟩ : ∃ v, zs[j]? = some v := ⟨_, List.getElem?_eq_getElem (by rw [HL.out]; exact hlt)⟩
      obtain ⟨b, off, e, hb, hc⟩ := H.out.2 (by omega)
      subst e
      have c0 : wr.cell? ⟨b, off + j, none⟩ = some (.int .i64 v) := by
        rw [hk.cell (p := ⟨b, off + j, none⟩) hb, hc j hlt, vals_get hv]
      clear hc
      have hjm : (j : Int) < (n : Int) := by omega
      have hjz : (0 : Int) ≤ (j : Int) := by omega
      obtain ⟨p, hp⟩ : ∃ p, ofL (zs.take j) = p := ⟨_, rfl⟩
      rw [hp] at K1
      obtain ⟨a0, a1, a2, a3⟩ := K1.out.cells
      obtain ⟨f0, f1, f2, f3⟩ := K1.out.free
      dsimp only at a0 a1 a2 a3
      have HP := Lib.hid hp
      have HV := Lib.hid hv
      clear hp hv
      go_wp2_with fail
      go_region_with (fail)
      all_goals
        rw [show IntKind.i64.wrap (p.s + v) = wrap64 (p.s + v) by simp only [IntKind.wrap_i64, wrap64]]
        have hK1 : Keep w (wr.setCell ⟨w.heap.size + 1, 1, none⟩ (.int .i64 (wrap64 (p.s + v)))).drew := (Only.keep hk ((Only.refl (fun k => k = w.heap.size + 1) wr).setCell ⟨w.heap.size + 1, 1, none⟩ (.int .i64 (wrap64 (p.s + v))) rfl) (fun k hk => by omega)).drew
        have HB := Lib.hid (set_s K1.out (wrap64 (p.s + v)))
        have HB0 := Lib.hid (K0.out.only ((Only.refl (fun k => k = w.heap.size + 1) wr).setCell ⟨w.heap.size + 1, 1, none⟩ (.int .i64 (wrap64 (p.s + v))) rfl).drew (fun h => by omega))
        have c1 : (wr.setCell ⟨w.heap.size + 1, 1, none⟩ (.int .i64 (wrap64 (p.s + v)))).drew.cell? ⟨b, off + j, none⟩ = some (.int .i64 v) := by
          rw [hK1.cell (p := ⟨b, off + j, none⟩) hb, ← hk.cell (p := ⟨b, off + j, none⟩) hb, c0]
        generalize (wr.setCell ⟨w.heap.size + 1, 1, none⟩ (.int .i64 (wrap64 (p.s + v)))).drew = W1 at *
        clear a0 a1 a2 a3 f0 f1 f2 f3 c0
        obtain ⟨a0, a1, a2, a3⟩ := HB.out.cells
        obtain ⟨f0, f1, f2, f3⟩ := HB.out.free
        dsimp only at a0 a1 a2 a3
        have HW := Lib.hid (show w.cell? ⟨b, off + j, none⟩ = some (.int .i64 v) by rw [← hK1.cell (p := ⟨b, off + j, none⟩) hb]; exact c1)
        have HCC := Lib.hid (And.intro (show b < W1.heap.size by have := hK1.size; omega) c1)
        by_cases hj0 : j = 0
        · have hg : ((j : Int) == 0) = true := by simp [hj0]
          have HQ := Lib.hid (show ofL (zs.take (j + 1)) = ⟨((j + 1 : Nat) : Int), wrap64 (p.s + v), v, v⟩ by
            have h1 := HP.out
            have h2 := HV.out
            subst hj0
            rw [ofL_first h2, ← h1]
            show one1 v = ⟨1, wrap64 (0 + v), v, v⟩
            rw [Int.zero_add, wr_id (HZ.out v (List.mem_of_getElem? h2))]
            rfl)
          clear hj0
          go_wp2_with fail
          have HS := Lib.hid (show ∀ w', Keep W1 w' → Keep W1 w' ∧ (w'.cell? ⟨b, off + j, none⟩ = some (.int .i64 v) ∧ w'.cell? ⟨w.heap.size + 1, 2, none⟩ = some (.int .i64 p.mn) ∧ w'.cell? ⟨w.heap.size + 1, 3, none⟩ = some (.int .i64 p.mx)) from
            fun w' h => ⟨h, by rw [h.cell (p := ⟨b, off + j, none⟩) HCC.out.1, HCC.out.2], (HB.out.keep h).cells.2.2.1, (HB.out.keep h).cells.2.2.2⟩)
          have hKc := (Keep.refl W1).drew
          refine seq_region (S := fun w' => Keep W1 w' ∧ (w'.cell? ⟨b, off + j, none⟩ = some (.int .i64 v) ∧ w'.cell? ⟨w.heap.size + 1, 2, none⟩ = some (.int .i64 p.mn) ∧ w'.cell? ⟨w.heap.size + 1, 3, none⟩ = some (.int .i64 p.mx))) [⟨0, 16, 4194304⟩, ⟨1, 4194304, 8388608⟩, ⟨2, 8388608, 16777216⟩, ⟨4, 16777217, 33554432⟩, ⟨4, 16777232, 67108864⟩, ⟨28, 117440512, 134217728⟩, ⟨36, 150994944, 268435456⟩, ⟨4, 16777224, 536870912⟩, ⟨132, 553648128, 1073741824⟩, ⟨324, 1358954496, 2147483648⟩, ⟨516, 2164260864, 4294967296⟩] [(0, false), (1, false), (2, false), (3, false), (4, false), (5, false), (6, false), (7, false), (8, false), (9, false), (10, false)] rfl (by kernel_rfl) (by kernel_rfl) (fun _ _ d _ _ h => by cases d <;> exact h) (HS.out _ hKc) ?_
          simp only [rowsOf, rowAt, gslot, List.map_cons, List.map_nil, List.getElem?_toArray, List.getElem?_cons_zero, List.getElem?_cons_succ, Option.bind_some]
          repeat (first
            | (refine seq_take (v := ?_) (a' := ?_) (by rfl) ?_ ?_ ?_
               rotate_left 2
               · (intro w hSw; obtain ⟨-, hSw⟩ := hSw; go_split_ands; go_simp; with_reducible rfl)
               · (simp only [Act.put, List.setIfInBounds_toArray, List.set_cons_zero, List.set_cons_succ]; with_reducible rfl))
            | (refine seq_skip (a' := ?_) (HS.out _ hKc) (by rfl) ?_ ?_
               rotate_left
               · (simp only [Act.put, List.setIfInBounds_toArray, List.set_cons_zero, List.set_cons_succ]; with_reducible rfl)))
          refine seq_nil ?_
          clear HS
          have HB2 := Lib.hid (HB.out.keep hKc)
          have HZ2 := Lib.hid (HB0.out.keep hKc)
          have hK2 := hK1.trans hKc
          clear hKc
          generalize W1.drew = W2 at *
          clear a0 a1 a2 a3 f0 f1 f2 f3 c1
          have c1 : W2.cell? ⟨b, off + j, none⟩ = some (.int .i64 v) := by rw [hK2.cell (p := ⟨b, off + j, none⟩) hb]; exact HW.out
          obtain ⟨a0, a1, a2, a3⟩ := HB2.out.cells
          obtain ⟨f0, f1, f2, f3⟩ := HB2.out.free
          dsimp only at a0 a1 a2 a3
          go_wp2_with fail
          have HB3 := Lib.hid (set_mn HB2.out v)
          have ho := (Only.refl (fun k => k = w.heap.size + 1) W2).setCell ⟨w.heap.size + 1, 2, none⟩ (.int .i64 v) rfl
          have HZ3 := Lib.hid (HZ2.out.only ho (fun h => by omega))
          have hK3 := Only.keep hK2 ho (fun k hk => by omega)
          generalize W2.setCell ⟨w.heap.size + 1, 2, none⟩ (.int .i64 v) = W3 at *
          clear ho
          have HCD := Lib.hid (And.intro (show b < W3.heap.size by have := hK3.size; omega) (show W3.cell? ⟨b, off + j, none⟩ = some (.int .i64 v) by rw [hK3.cell (p := ⟨b, off + j, none⟩) hb]; exact HW.out))
          clear a0 a1 a2 a3 f0 f1 f2 f3 c1
          have HS := Lib.hid (show ∀ w', Keep W3 w' → Keep W3 w' ∧ (w'.cell? ⟨b, off + j, none⟩ = some (.int .i64 v) ∧ w'.cell? ⟨w.heap.size + 1, 2, none⟩ = some (.int .i64 v) ∧ w'.cell? ⟨w.heap.size + 1, 3, none⟩ = some (.int .i64 p.mx)) from
            fun w' h => ⟨h, by rw [h.cell (p := ⟨b, off + j, none⟩) HCD.out.1, HCD.out.2], (HB3.out.keep h).cells.2.2.1, (HB3.out.keep h).cells.2.2.2⟩)
          have hKc := (Keep.refl W3).drew
          refine seq_region (S := fun w' => Keep W3 w' ∧ (w'.cell? ⟨b, off + j, none⟩ = some (.int .i64 v) ∧ w'.cell? ⟨w.heap.size + 1, 2, none⟩ = some (.int .i64 v) ∧ w'.cell? ⟨w.heap.size + 1, 3, none⟩ = some (.int .i64 p.mx))) [⟨0, 16, 274877906944⟩, ⟨1, 274877906944, 549755813888⟩, ⟨2, 549755813888, 1099511627776⟩, ⟨4, 1099511627777, 2199023255552⟩, ⟨4, 1099511627792, 4398046511104⟩, ⟨28, 7696581394432, 8796093022208⟩, ⟨36, 9895604649984, 17592186044416⟩, ⟨4, 1099511627784, 35184372088832⟩, ⟨132, 36283883716608, 70368744177664⟩, ⟨324, 89060441849856, 140737488355328⟩, ⟨516, 141836999983104, 281474976710656⟩] [(0, false), (1, false), (2, false), (3, false), (4, false), (5, false), (6, false), (7, false), (8, false), (9, false), (10, false)] rfl (by kernel_rfl) (by kernel_rfl) (fun _ _ d _ _ h => by cases d <;> exact h) (HS.out _ hKc) ?_
          simp only [rowsOf, rowAt, gslot, List.map_cons, List.map_nil, List.getElem?_toArray, List.getElem?_cons_zero, List.getElem?_cons_succ, Option.bind_some]
          repeat (first
            | (refine seq_take (v := ?_) (a' := ?_) (by rfl) ?_ ?_ ?_
               rotate_left 2
               · (intro w hSw; obtain ⟨-, hSw⟩ := hSw; go_split_ands; go_simp; with_reducible rfl)
               · (simp only [Act.put, List.setIfInBounds_toArray, List.set_cons_zero, List.set_cons_succ]; with_reducible rfl))
            | (refine seq_skip (a' := ?_) (HS.out _ hKc) (by rfl) ?_ ?_
               rotate_left
               · (simp only [Act.put, List.setIfInBounds_toArray, List.set_cons_zero, List.set_cons_succ]; with_reducible rfl)))
          refine seq_nil ?_
          clear HS
          have HB4 := Lib.hid (HB3.out.keep hKc)
          have HZ4 := Lib.hid (HZ3.out.keep hKc)
          have hK4 := hK3.trans hKc
          clear hKc
          generalize W3.drew = W4 at *
          have c1 : W4.cell? ⟨b, off + j, none⟩ = some (.int .i64 v) := by rw [hK4.cell (p := ⟨b, off + j, none⟩) hb]; exact HW.out
          obtain ⟨a0, a1, a2, a3⟩ := HB4.out.cells
          obtain ⟨f0, f1, f2, f3⟩ := HB4.out.free
          dsimp only at a0 a1 a2 a3
          go_wp2_with fail
          go_roundw
          case rel =>
            have ho := (Only.refl (fun k => k = w.heap.size + 1) W4).setCell ⟨w.heap.size + 1, 3, none⟩ (.int .i64 v) rfl
            exact ⟨j + 1, hlt, by go_num, Only.keep hK4 ho (fun k hk => by omega), HZ4.out.only ho (fun h => by omega), by rw [HQ.out]; exact set_mx HB4.out v⟩
          case measure => simp [intOf]; omega
        · by_cases hl0 : v < p.mn
          · by_cases hh0 : v > p.mx
            · have hg : ((j : Int) == 0) = false := by simp [hj0]
              have hlo : decide (v < p.mn) = true := by simp; omega
              have hhi : decide (v > p.mx) = true := by simp; omega
              have HQ := Lib.hid (show ofL (zs.take (j + 1)) = ⟨((j + 1 : Nat) : Int), wrap64 (p.s + v), v, v⟩ by
                rw [ofL_next HV.out (by omega) (by rw [HL.out]; exact hn) HZ.out, HP.out, show min p.mn v = v by omega, show max p.mx v = v by omega])
              clear hl0 hh0
              clear hj0
              go_wp2_with fail
              have HS := Lib.hid (show ∀ w', Keep W1 w' → Keep W1 w' ∧ (w'.cell? ⟨b, off + j, none⟩ = some (.int .i64 v) ∧ w'.cell? ⟨w.heap.size + 1, 2, none⟩ = some (.int .i64 p.mn) ∧ w'.cell? ⟨w.heap.size + 1, 3, none⟩ = some (.int .i64 p.mx)) from
                fun w' h => ⟨h, by rw [h.cell (p := ⟨b, off + j, none⟩) HCC.out.1, HCC.out.2], (HB.out.keep h).cells.2.2.1, (HB.out.keep h).cells.2.2.2⟩)
              have hKc := (Keep.refl W1).drew
              refine seq_region (S := fun w' => Keep W1 w' ∧ (w'.cell? ⟨b, off + j, none⟩ = some (.int .i64 v) ∧ w'.cell? ⟨w.heap.size + 1, 2, none⟩ = some (.int .i64 p.mn) ∧ w'.cell? ⟨w.heap.size + 1, 3, none⟩ = some (.int .i64 p.mx))) [⟨0, 16, 4194304⟩, ⟨1, 4194304, 8388608⟩, ⟨2, 8388608, 16777216⟩, ⟨4, 16777217, 33554432⟩, ⟨4, 16777232, 67108864⟩, ⟨28, 117440512, 134217728⟩, ⟨36, 150994944, 268435456⟩, ⟨4, 16777224, 536870912⟩, ⟨132, 553648128, 1073741824⟩, ⟨324, 1358954496, 2147483648⟩, ⟨516, 2164260864, 4294967296⟩] [(0, false), (1, false), (2, false), (3, false), (4, false), (5, false), (6, false), (7, false), (8, false), (9, false), (10, false)] rfl (by kernel_rfl) (by kernel_rfl) (fun _ _ d _ _ h => by cases d <;> exact h) (HS.out _ hKc) ?_
              simp only [rowsOf, rowAt, gslot, List.map_cons, List.map_nil, List.getElem?_toArray, List.getElem?_cons_zero, List.getElem?_cons_succ, Option.bind_some]
              repeat (first
                | (refine seq_take (v := ?_) (a' := ?_) (by rfl) ?_ ?_ ?_
                   rotate_left 2
                   · (intro w hSw; obtain ⟨-, hSw⟩ := hSw; go_split_ands; go_simp; with_reducible rfl)
                   · (simp only [Act.put, List.setIfInBounds_toArray, List.set_cons_zero, List.set_cons_succ]; with_reducible rfl))
                | (refine seq_skip (a' := ?_) (HS.out _ hKc) (by rfl) ?_ ?_
                   rotate_left
                   · (simp only [Act.put, List.setIfInBounds_toArray, List.set_cons_zero, List.set_cons_succ]; with_reducible rfl)))
              refine seq_nil ?_
              clear HS
              have HB2 := Lib.hid (HB.out.keep hKc)
              have HZ2 := Lib.hid (HB0.out.keep hKc)
              have hK2 := hK1.trans hKc
              clear hKc
              generalize W1.drew = W2 at *
              clear a0 a1 a2 a3 f0 f1 f2 f3 c1
              have c1 : W2.cell? ⟨b, off + j, none⟩ = some (.int .i64 v) := by rw [hK2.cell (p := ⟨b, off + j, none⟩) hb]; exact HW.out
              obtain ⟨a0, a1, a2, a3⟩ := HB2.out.cells
              obtain ⟨f0, f1, f2, f3⟩ := HB2.out.free
              dsimp only at a0 a1 a2 a3
              go_wp2_with fail
              have HB3 := Lib.hid (set_mn HB2.out v)
              have ho := (Only.refl (fun k => k = w.heap.size + 1) W2).setCell ⟨w.heap.size + 1, 2, none⟩ (.int .i64 v) rfl
              have HZ3 := Lib.hid (HZ2.out.only ho (fun h => by omega))
              have hK3 := Only.keep hK2 ho (fun k hk => by omega)
              generalize W2.setCell ⟨w.heap.size + 1, 2, none⟩ (.int .i64 v) = W3 at *
              clear ho
              have HCD := Lib.hid (And.intro (show b < W3.heap.size by have := hK3.size; omega) (show W3.cell? ⟨b, off + j, none⟩ = some (.int .i64 v) by rw [hK3.cell (p := ⟨b, off + j, none⟩) hb]; exact HW.out))
              clear a0 a1 a2 a3 f0 f1 f2 f3 c1
              have HS := Lib.hid (show ∀ w', Keep W3 w' → Keep W3 w' ∧ (w'.cell? ⟨b, off + j, none⟩ = some (.int .i64 v) ∧ w'.cell? ⟨w.heap.size + 1, 2, none⟩ = some (.int .i64 v) ∧ w'.cell? ⟨w.heap.size + 1, 3, none⟩ = some (.int .i64 p.mx)) from
                fun w' h => ⟨h, by rw [h.cell (p := ⟨b, off + j, none⟩) HCD.out.1, HCD.out.2], (HB3.out.keep h).cells.2.2.1, (HB3.out.keep h).cells.2.2.2⟩)
              have hKc := (Keep.refl W3).drew
              refine seq_region (S := fun w' => Keep W3 w' ∧ (w'.cell? ⟨b, off + j, none⟩ = some (.int .i64 v) ∧ w'.cell? ⟨w.heap.size + 1, 2, none⟩ = some (.int .i64 v) ∧ w'.cell? ⟨w.heap.size + 1, 3, none⟩ = some (.int .i64 p.mx))) [⟨0, 16, 274877906944⟩, ⟨1, 274877906944, 549755813888⟩, ⟨2, 549755813888, 1099511627776⟩, ⟨4, 1099511627777, 2199023255552⟩, ⟨4, 1099511627792, 4398046511104⟩, ⟨28, 7696581394432, 8796093022208⟩, ⟨36, 9895604649984, 17592186044416⟩, ⟨4, 1099511627784, 35184372088832⟩, ⟨132, 36283883716608, 70368744177664⟩, ⟨324, 89060441849856, 140737488355328⟩, ⟨516, 141836999983104, 281474976710656⟩] [(0, false), (1, false), (2, false), (3, false), (4, false), (5, false), (6, false), (7, false), (8, false), (9, false), (10, false)] rfl (by kernel_rfl) (by kernel_rfl) (fun _ _ d _ _ h => by cases d <;> exact h) (HS.out _ hKc) ?_
              simp only [rowsOf, rowAt, gslot, List.map_cons, List.map_nil, List.getElem?_toArray, List.getElem?_cons_zero, List.getElem?_cons_succ, Option.bind_some]
              repeat (first
                | (refine seq_take (v := ?_) (a' := ?_) (by rfl) ?_ ?_ ?_
                   rotate_left 2
                   · (intro w hSw; obtain ⟨-, hSw⟩ := hSw; go_split_ands; go_simp; with_reducible rfl)
                   · (simp only [Act.put, List.setIfInBounds_toArray, List.set_cons_zero, List.set_cons_succ]; with_reducible rfl))
                | (refine seq_skip (a' := ?_) (HS.out _ hKc) (by rfl) ?_ ?_
                   rotate_left
                   · (simp only [Act.put, List.setIfInBounds_toArray, List.set_cons_zero, List.set_cons_succ]; with_reducible rfl)))
              refine seq_nil ?_
              clear HS
              have HB4 := Lib.hid (HB3.out.keep hKc)
              have HZ4 := Lib.hid (HZ3.out.keep hKc)
              have hK4 := hK3.trans hKc
              clear hKc
              generalize W3.drew = W4 at *
              have c1 : W4.cell? ⟨b, off + j, none⟩ = some (.int .i64 v) := by rw [hK4.cell (p := ⟨b, off + j, none⟩) hb]; exact HW.out
              obtain ⟨a0, a1, a2, a3⟩ := HB4.out.cells
              obtain ⟨f0, f1, f2, f3⟩ := HB4.out.free
              dsimp only at a0 a1 a2 a3
              go_wp2_with fail
              go_roundw
              case rel =>
                have ho := (Only.refl (fun k => k = w.heap.size + 1) W4).setCell ⟨w.heap.size + 1, 3, none⟩ (.int .i64 v) rfl
                exact ⟨j + 1, hlt, by go_num, Only.keep hK4 ho (fun k hk => by omega), HZ4.out.only ho (fun h => by omega), by rw [HQ.out]; exact set_mx HB4.out v⟩
              case measure => simp [intOf]; omega
            · have hg : ((j : Int) == 0) = false := by simp [hj0]
              have hlo : decide (v < p.mn) = true := by simp; omega
              have hhi : decide (v > p.mx) = false := by simp; omega
              have HQ := Lib.hid (show ofL (zs.take (j + 1)) = ⟨((j + 1 : Nat) : Int), wrap64 (p.s + v), v, p.mx⟩ by
                rw [ofL_next HV.out (by omega) (by rw [HL.out]; exact hn) HZ.out, HP.out, show min p.mn v = v by omega, show max p.mx v = p.mx by omega])
              clear hl0 hh0
              clear hj0
              go_wp2_with fail
              have HS := Lib.hid (show ∀ w', Keep W1 w' → Keep W1 w' ∧ (w'.cell? ⟨b, off + j, none⟩ = some (.int .i64 v) ∧ w'.cell? ⟨w.heap.size + 1, 2, none⟩ = some (.int .i64 p.mn) ∧ w'.cell? ⟨w.heap.size + 1, 3, none⟩ = some (.int .i64 p.mx)) from
                fun w' h => ⟨h, by rw [h.cell (p := ⟨b, off + j, none⟩) HCC.out.1, HCC.out.2], (HB.out.keep h).cells.2.2.1, (HB.out.keep h).cells.2.2.2⟩)
              have hKc := (Keep.refl W1).drew
              refine seq_region (S := fun w' => Keep W1 w' ∧ (w'.cell? ⟨b, off + j, none⟩ = some (.int .i64 v) ∧ w'.cell? ⟨w.heap.size + 1, 2, none⟩ = some (.int .i64 p.mn) ∧ w'.cell? ⟨w.heap.size + 1, 3, none⟩ = some (.int .i64 p.mx))) [⟨0, 16, 4194304⟩, ⟨1, 4194304, 8388608⟩, ⟨2, 8388608, 16777216⟩, ⟨4, 16777217, 33554432⟩, ⟨4, 16777232, 67108864⟩, ⟨28, 117440512, 134217728⟩, ⟨36, 150994944, 268435456⟩, ⟨4, 16777224, 536870912⟩, ⟨132, 553648128, 1073741824⟩, ⟨324, 1358954496, 2147483648⟩, ⟨516, 2164260864, 4294967296⟩] [(0, false), (1, false), (2, false), (3, false), (4, false), (5, false), (6, false), (7, false), (8, false), (9, false), (10, false)] rfl (by kernel_rfl) (by kernel_rfl) (fun _ _ d _ _ h => by cases d <;> exact h) (HS.out _ hKc) ?_
              simp only [rowsOf, rowAt, gslot, List.map_cons, List.map_nil, List.getElem?_toArray, List.getElem?_cons_zero, List.getElem?_cons_succ, Option.bind_some]
              repeat (first
                | (refine seq_take (v := ?_) (a' := ?_) (by rfl) ?_ ?_ ?_
                   rotate_left 2
                   · (intro w hSw; obtain ⟨-, hSw⟩ := hSw; go_split_ands; go_simp; with_reducible rfl)
                   · (simp only [Act.put, List.setIfInBounds_toArray, List.set_cons_zero, List.set_cons_succ]; with_reducible rfl))
                | (refine seq_skip (a' := ?_) (HS.out _ hKc) (by rfl) ?_ ?_
                   rotate_left
                   · (simp only [Act.put, List.setIfInBounds_toArray, List.set_cons_zero, List.set_cons_succ]; with_reducible rfl)))
              refine seq_nil ?_
              clear HS
              have HB2 := Lib.hid (HB.out.keep hKc)
              have HZ2 := Lib.hid (HB0.out.keep hKc)
              have hK2 := hK1.trans hKc
              clear hKc
              generalize W1.drew = W2 at *
              clear a0 a1 a2 a3 f0 f1 f2 f3 c1
              have c1 : W2.cell? ⟨b, off + j, none⟩ = some (.int .i64 v) := by rw [hK2.cell (p := ⟨b, off + j, none⟩) hb]; exact HW.out
              obtain ⟨a0, a1, a2, a3⟩ := HB2.out.cells
              obtain ⟨f0, f1, f2, f3⟩ := HB2.out.free
              dsimp only at a0 a1 a2 a3
              go_wp2_with fail
              have HB3 := Lib.hid (set_mn HB2.out v)
              have ho := (Only.refl (fun k => k = w.heap.size + 1) W2).setCell ⟨w.heap.size + 1, 2, none⟩ (.int .i64 v) rfl
              have HZ3 := Lib.hid (HZ2.out.only ho (fun h => by omega))
              have hK3 := Only.keep hK2 ho (fun k hk => by omega)
              generalize W2.setCell ⟨w.heap.size + 1, 2, none⟩ (.int .i64 v) = W3 at *
              clear ho
              have HCD := Lib.hid (And.intro (show b < W3.heap.size by have := hK3.size; omega) (show W3.cell? ⟨b, off + j, none⟩ = some (.int .i64 v) by rw [hK3.cell (p := ⟨b, off + j, none⟩) hb]; exact HW.out))
              clear a0 a1 a2 a3 f0 f1 f2 f3 c1
              have HS := Lib.hid (show ∀ w', Keep W3 w' → Keep W3 w' ∧ (w'.cell? ⟨b, off + j, none⟩ = some (.int .i64 v) ∧ w'.cell? ⟨w.heap.size + 1, 2, none⟩ = some (.int .i64 v) ∧ w'.cell? ⟨w.heap.size + 1, 3, none⟩ = some (.int .i64 p.mx)) from
                fun w' h => ⟨h, by rw [h.cell (p := ⟨b, off + j, none⟩) HCD.out.1, HCD.out.2], (HB3.out.keep h).cells.2.2.1, (HB3.out.keep h).cells.2.2.2⟩)
              have hKc := (Keep.refl W3).drew
              refine seq_region (S := fun w' => Keep W3 w' ∧ (w'.cell? ⟨b, off + j, none⟩ = some (.int .i64 v) ∧ w'.cell? ⟨w.heap.size + 1, 2, none⟩ = some (.int .i64 v) ∧ w'.cell? ⟨w.heap.size + 1, 3, none⟩ = some (.int .i64 p.mx))) [⟨0, 16, 274877906944⟩, ⟨1, 274877906944, 549755813888⟩, ⟨2, 549755813888, 1099511627776⟩, ⟨4, 1099511627777, 2199023255552⟩, ⟨4, 1099511627792, 4398046511104⟩, ⟨28, 7696581394432, 8796093022208⟩, ⟨36, 9895604649984, 17592186044416⟩, ⟨4, 1099511627784, 35184372088832⟩, ⟨132, 36283883716608, 70368744177664⟩, ⟨324, 89060441849856, 140737488355328⟩, ⟨516, 141836999983104, 281474976710656⟩] [(0, false), (1, false), (2, false), (3, false), (4, false), (5, false), (6, false), (7, false), (8, false), (9, false), (10, false)] rfl (by kernel_rfl) (by kernel_rfl) (fun _ _ d _ _ h => by cases d <;> exact h) (HS.out _ hKc) ?_
              simp only [rowsOf, rowAt, gslot, List.map_cons, List.map_nil, List.getElem?_toArray, List.getElem?_cons_zero, List.getElem?_cons_succ, Option.bind_some]
              repeat (first
                | (refine seq_take (v := ?_) (a' := ?_) (by rfl) ?_ ?_ ?_
                   rotate_left 2
                   · (intro w hSw; obtain ⟨-, hSw⟩ := hSw; go_split_ands; go_simp; with_reducible rfl)
                   · (simp only [Act.put, List.setIfInBounds_toArray, List.set_cons_zero, List.set_cons_succ]; with_reducible rfl))
                | (refine seq_skip (a' := ?_) (HS.out _ hKc) (by rfl) ?_ ?_
                   rotate_left
                   · (simp only [Act.put, List.setIfInBounds_toArray, List.set_cons_zero, List.set_cons_succ]; with_reducible rfl)))
              refine seq_nil ?_
              clear HS
              have HB4 := Lib.hid (HB3.out.keep hKc)
              have HZ4 := Lib.hid (HZ3.out.keep hKc)
              have hK4 := hK3.trans hKc
              clear hKc
              generalize W3.drew = W4 at *
              have c1 : W4.cell? ⟨b, off + j, none⟩ = some (.int .i64 v) := by rw [hK4.cell (p := ⟨b, off + j, none⟩) hb]; exact HW.out
              obtain ⟨a0, a1, a2, a3⟩ := HB4.out.cells
              obtain ⟨f0, f1, f2, f3⟩ := HB4.out.free
              dsimp only at a0 a1 a2 a3
              go_wp2_with fail
              go_roundw
              case rel =>
                exact ⟨j + 1, hlt, by go_num, hK4, HZ4.out, by rw [HQ.out]; exact HB4.out⟩
              case measure => simp [intOf]; omega
          · by_cases hh0 : v > p.mx
            · have hg : ((j : Int) == 0) = false := by simp [hj0]
              have hlo : decide (v < p.mn) = false := by simp; omega
              have hhi : decide (v > p.mx) = true := by simp; omega
              have HQ := Lib.hid (show ofL (zs.take (j + 1)) = ⟨((j + 1 : Nat) : Int), wrap64 (p.s + v), p.mn, v⟩ by
                rw [ofL_next HV.out (by omega) (by rw [HL.out]; exact hn) HZ.out, HP.out, show min p.mn v = p.mn by omega, show max p.mx v = v by omega])
              clear hl0 hh0
              clear hj0
              go_wp2_with fail
              have HS := Lib.hid (show ∀ w', Keep W1 w' → Keep W1 w' ∧ (w'.cell? ⟨b, off + j, none⟩ = some (.int .i64 v) ∧ w'.cell? ⟨w.heap.size + 1, 2, none⟩ = some (.int .i64 p.mn) ∧ w'.cell? ⟨w.heap.size + 1, 3, none⟩ = some (.int .i64 p.mx)) from
                fun w' h => ⟨h, by rw [h.cell (p := ⟨b, off + j, none⟩) HCC.out.1, HCC.out.2], (HB.out.keep h).cells.2.2.1, (HB.out.keep h).cells.2.2.2⟩)
              have hKc := (Keep.refl W1).drew
              refine seq_region (S := fun w' => Keep W1 w' ∧ (w'.cell? ⟨b, off + j, none⟩ = some (.int .i64 v) ∧ w'.cell? ⟨w.heap.size + 1, 2, none⟩ = some (.int .i64 p.mn) ∧ w'.cell? ⟨w.heap.size + 1, 3, none⟩ = some (.int .i64 p.mx))) [⟨0, 16, 4194304⟩, ⟨1, 4194304, 8388608⟩, ⟨2, 8388608, 16777216⟩, ⟨4, 16777217, 33554432⟩, ⟨4, 16777232, 67108864⟩, ⟨28, 117440512, 134217728⟩, ⟨36, 150994944, 268435456⟩, ⟨4, 16777224, 536870912⟩, ⟨132, 553648128, 1073741824⟩, ⟨324, 1358954496, 2147483648⟩, ⟨516, 2164260864, 4294967296⟩] [(0, false), (1, false), (2, false), (3, false), (4, false), (5, false), (6, false), (7, false), (8, false), (9, false), (10, false)] rfl (by kernel_rfl) (by kernel_rfl) (fun _ _ d _ _ h => by cases d <;> exact h) (HS.out _ hKc) ?_
              simp only [rowsOf, rowAt, gslot, List.map_cons, List.map_nil, List.getElem?_toArray, List.getElem?_cons_zero, List.getElem?_cons_succ, Option.bind_some]
              repeat (first
                | (refine seq_take (v := ?_) (a' := ?_) (by rfl) ?_ ?_ ?_
                   rotate_left 2
                   · (intro w hSw; obtain ⟨-, hSw⟩ := hSw; go_split_ands; go_simp; with_reducible rfl)
                   · (simp only [Act.put, List.setIfInBounds_toArray, List.set_cons_zero, List.set_cons_succ]; with_reducible rfl))
                | (refine seq_skip (a' := ?_) (HS.out _ hKc) (by rfl) ?_ ?_
                   rotate_left
                   · (simp only [Act.put, List.setIfInBounds_toArray, List.set_cons_zero, List.set_cons_succ]; with_reducible rfl)))
              refine seq_nil ?_
              clear HS
              have HB2 := Lib.hid (HB.out.keep hKc)
              have HZ2 := Lib.hid (HB0.out.keep hKc)
              have hK2 := hK1.trans hKc
              clear hKc
              generalize W1.drew = W2 at *
              clear a0 a1 a2 a3 f0 f1 f2 f3 c1
              have c1 : W2.cell? ⟨b, off + j, none⟩ = some (.int .i64 v) := by rw [hK2.cell (p := ⟨b, off + j, none⟩) hb]; exact HW.out
              obtain ⟨a0, a1, a2, a3⟩ := HB2.out.cells
              obtain ⟨f0, f1, f2, f3⟩ := HB2.out.free
              dsimp only at a0 a1 a2 a3
              go_wp2_with fail
              have HB3 := HB2
              have HZ3 := HZ2
              have hK3 := hK2
              generalize W2 = W3 at *
              have HCD := Lib.hid (And.intro (show b < W3.heap.size by have := hK3.size; omega) (show W3.cell? ⟨b, off + j, none⟩ = some (.int .i64 v) by rw [hK3.cell (p := ⟨b, off + j, none⟩) hb]; exact HW.out))
              clear a0 a1 a2 a3 f0 f1 f2 f3 c1
              have HS := Lib.hid (show ∀ w', Keep W3 w' → Keep W3 w' ∧ (w'.cell? ⟨b, off + j, none⟩ = some (.int .i64 v) ∧ w'.cell? ⟨w.heap.size + 1, 2, none⟩ = some (.int .i64 p.mn) ∧ w'.cell? ⟨w.heap.size + 1, 3, none⟩ = some (.int .i64 p.mx)) from
                fun w' h => ⟨h, by rw [h.cell (p := ⟨b, off + j, none⟩) HCD.out.1, HCD.out.2], (HB3.out.keep h).cells.2.2.1, (HB3.out.keep h).cells.2.2.2⟩)
              have hKc := (Keep.refl W3).drew
              refine seq_region (S := fun w' => Keep W3 w' ∧ (w'.cell? ⟨b, off + j, none⟩ = some (.int .i64 v) ∧ w'.cell? ⟨w.heap.size + 1, 2, none⟩ = some (.int .i64 p.mn) ∧ w'.cell? ⟨w.heap.size + 1, 3, none⟩ = some (.int .i64 p.mx))) [⟨0, 16, 274877906944⟩, ⟨1, 274877906944, 549755813888⟩, ⟨2, 549755813888, 1099511627776⟩, ⟨4, 1099511627777, 2199023255552⟩, ⟨4, 1099511627792, 4398046511104⟩, ⟨28, 7696581394432, 8796093022208⟩, ⟨36, 9895604649984, 17592186044416⟩, ⟨4, 1099511627784, 35184372088832⟩, ⟨132, 36283883716608, 70368744177664⟩, ⟨324, 89060441849856, 140737488355328⟩, ⟨516, 141836999983104, 281474976710656⟩] [(0, false), (1, false), (2, false), (3, false), (4, false), (5, false), (6, false), (7, false), (8, false), (9, false), (10, false)] rfl (by kernel_rfl) (by kernel_rfl) (fun _ _ d _ _ h => by cases d <;> exact h) (HS.out _ hKc) ?_
              simp only [rowsOf, rowAt, gslot, List.map_cons, List.map_nil, List.getElem?_toArray, List.getElem?_cons_zero, List.getElem?_cons_succ, Option.bind_some]
              repeat (first
                | (refine seq_take (v := ?_) (a' := ?_) (by rfl) ?_ ?_ ?_
                   rotate_left 2
                   · (intro w hSw; obtain ⟨-, hSw⟩ := hSw; go_split_ands; go_simp; with_reducible rfl)
                   · (simp only [Act.put, List.setIfInBounds_toArray, List.set_cons_zero, List.set_cons_succ]; with_reducible rfl))
                | (refine seq_skip (a' := ?_) (HS.out _ hKc) (by rfl) ?_ ?_
                   rotate_left
                   · (simp only [Act.put, List.setIfInBounds_toArray, List.set_cons_zero, List.set_cons_succ]; with_reducible rfl)))
              refine seq_nil ?_
              clear HS
              have HB4 := Lib.hid (HB3.out.keep hKc)
              have HZ4 := Lib.hid (HZ3.out.keep hKc)
              have hK4 := hK3.trans hKc
              clear hKc
              generalize W3.drew = W4 at *
              have c1 : W4.cell? ⟨b, off + j, none⟩ = some (.int .i64 v) := by rw [hK4.cell (p := ⟨b, off + j, none⟩) hb]; exact HW.out
              obtain ⟨a0, a1, a2, a3⟩ := HB4.out.cells
              obtain ⟨f0, f1, f2, f3⟩ := HB4.out.free
              dsimp only at a0 a1 a2 a3
              go_wp2_with fail
              go_roundw
              case rel =>
                have ho := (Only.refl (fun k => k = w.heap.size + 1) W4).setCell ⟨w.heap.size + 1, 3, none⟩ (.int .i64 v) rfl
                exact ⟨j + 1, hlt, by go_num, Only.keep hK4 ho (fun k hk => by omega), HZ4.out.only ho (fun h => by omega), by rw [HQ.out]; exact set_mx HB4.out v⟩
              case measure => simp [intOf]; omega
            · have hg : ((j : Int) == 0) = false := by simp [hj0]
              have hlo : decide (v < p.mn) = false := by simp; omega
              have hhi : decide (v > p.mx) = false := by simp; omega
              have HQ := Lib.hid (show ofL (zs.take (j + 1)) = ⟨((j + 1 : Nat) : Int), wrap64 (p.s + v), p.mn, p.mx⟩ by
                rw [ofL_next HV.out (by omega) (by rw [HL.out]; exact hn) HZ.out, HP.out, show min p.mn v = p.mn by omega, show max p.mx v = p.mx by omega])
              clear hl0 hh0
              clear hj0
              go_wp2_with fail
              have HS := Lib.hid (show ∀ w', Keep W1 w' → Keep W1 w' ∧ (w'.cell? ⟨b, off + j, none⟩ = some (.int .i64 v) ∧ w'.cell? ⟨w.heap.size + 1, 2, none⟩ = some (.int .i64 p.mn) ∧ w'.cell? ⟨w.heap.size + 1, 3, none⟩ = some (.int .i64 p.mx)) from
                fun w' h => ⟨h, by rw [h.cell (p := ⟨b, off + j, none⟩) HCC.out.1, HCC.out.2], (HB.out.keep h).cells.2.2.1, (HB.out.keep h).cells.2.2.2⟩)
              have hKc := (Keep.refl W1).drew
              refine seq_region (S := fun w' => Keep W1 w' ∧ (w'.cell? ⟨b, off + j, none⟩ = some (.int .i64 v) ∧ w'.cell? ⟨w.heap.size + 1, 2, none⟩ = some (.int .i64 p.mn) ∧ w'.cell? ⟨w.heap.size + 1, 3, none⟩ = some (.int .i64 p.mx))) [⟨0, 16, 4194304⟩, ⟨1, 4194304, 8388608⟩, ⟨2, 8388608, 16777216⟩, ⟨4, 16777217, 33554432⟩, ⟨4, 16777232, 67108864⟩, ⟨28, 117440512, 134217728⟩, ⟨36, 150994944, 268435456⟩, ⟨4, 16777224, 536870912⟩, ⟨132, 553648128, 1073741824⟩, ⟨324, 1358954496, 2147483648⟩, ⟨516, 2164260864, 4294967296⟩] [(0, false), (1, false), (2, false), (3, false), (4, false), (5, false), (6, false), (7, false), (8, false), (9, false), (10, false)] rfl (by kernel_rfl) (by kernel_rfl) (fun _ _ d _ _ h => by cases d <;> exact h) (HS.out _ hKc) ?_
              simp only [rowsOf, rowAt, gslot, List.map_cons, List.map_nil, List.getElem?_toArray, List.getElem?_cons_zero, List.getElem?_cons_succ, Option.bind_some]
              repeat (first
                | (refine seq_take (v := ?_) (a' := ?_) (by rfl) ?_ ?_ ?_
                   rotate_left 2
                   · (intro w hSw; obtain ⟨-, hSw⟩ := hSw; go_split_ands; go_simp; with_reducible rfl)
                   · (simp only [Act.put, List.setIfInBounds_toArray, List.set_cons_zero, List.set_cons_succ]; with_reducible rfl))
                | (refine seq_skip (a' := ?_) (HS.out _ hKc) (by rfl) ?_ ?_
                   rotate_left
                   · (simp only [Act.put, List.setIfInBounds_toArray, List.set_cons_zero, List.set_cons_succ]; with_reducible rfl)))
              refine seq_nil ?_
              clear HS
              have HB2 := Lib.hid (HB.out.keep hKc)
              have HZ2 := Lib.hid (HB0.out.keep hKc)
              have hK2 := hK1.trans hKc
              clear hKc
              generalize W1.drew = W2 at *
              clear a0 a1 a2 a3 f0 f1 f2 f3 c1
              have c1 : W2.cell? ⟨b, off + j, none⟩ = some (.int .i64 v) := by rw [hK2.cell (p := ⟨b, off + j, none⟩) hb]; exact HW.out
              obtain ⟨a0, a1, a2, a3⟩ := HB2.out.cells
              obtain ⟨f0, f1, f2, f3⟩ := HB2.out.free
              dsimp only at a0 a1 a2 a3
              go_wp2_with fail
              have HB3 := HB2
              have HZ3 := HZ2
              have hK3 := hK2
              generalize W2 = W3 at *
              have HCD := Lib.hid (And.intro (show b < W3.heap.size by have := hK3.size; omega) (show W3.cell? ⟨b, off + j, none⟩ = some (.int .i64 v) by rw [hK3.cell (p := ⟨b, off + j, none⟩) hb]; exact HW.out))
              clear a0 a1 a2 a3 f0 f1 f2 f3 c1
              have HS := Lib.hid (show ∀ w', Keep W3 w' → Keep W3 w' ∧ (w'.cell? ⟨b, off + j, none⟩ = some (.int .i64 v) ∧ w'.cell? ⟨w.heap.size + 1, 2, none⟩ = some (.int .i64 p.mn) ∧ w'.cell? ⟨w.heap.size + 1, 3, none⟩ = some (.int .i64 p.mx)) from
                fun w' h => ⟨h, by rw [h.cell (p := ⟨b, off + j, none⟩) HCD.out.1, HCD.out.2], (HB3.out.keep h).cells.2.2.1, (HB3.out.keep h).cells.2.2.2⟩)
              have hKc := (Keep.refl W3).drew
              refine seq_region (S := fun w' => Keep W3 w' ∧ (w'.cell? ⟨b, off + j, none⟩ = some (.int .i64 v) ∧ w'.cell? ⟨w.heap.size + 1, 2, none⟩ = some (.int .i64 p.mn) ∧ w'.cell? ⟨w.heap.size + 1, 3, none⟩ = some (.int .i64 p.mx))) [⟨0, 16, 274877906944⟩, ⟨1, 274877906944, 549755813888⟩, ⟨2, 549755813888, 1099511627776⟩, ⟨4, 1099511627777, 2199023255552⟩, ⟨4, 1099511627792, 4398046511104⟩, ⟨28, 7696581394432, 8796093022208⟩, ⟨36, 9895604649984, 17592186044416⟩, ⟨4, 1099511627784, 35184372088832⟩, ⟨132, 36283883716608, 70368744177664⟩, ⟨324, 89060441849856, 140737488355328⟩, ⟨516, 141836999983104, 281474976710656⟩] [(0, false), (1, false), (2, false), (3, false), (4, false), (5, false), (6, false), (7, false), (8, false), (9, false), (10, false)] rfl (by kernel_rfl) (by kernel_rfl) (fun _ _ d _ _ h => by cases d <;> exact h) (HS.out _ hKc) ?_
              simp only [rowsOf, rowAt, gslot, List.map_cons, List.map_nil, List.getElem?_toArray, List.getElem?_cons_zero, List.getElem?_cons_succ, Option.bind_some]
              repeat (first
                | (refine seq_take (v := ?_) (a' := ?_) (by rfl) ?_ ?_ ?_
                   rotate_left 2
                   · (intro w hSw; obtain ⟨-, hSw⟩ := hSw; go_split_ands; go_simp; with_reducible rfl)
                   · (simp only [Act.put, List.setIfInBounds_toArray, List.set_cons_zero, List.set_cons_succ]; with_reducible rfl))
                | (refine seq_skip (a' := ?_) (HS.out _ hKc) (by rfl) ?_ ?_
                   rotate_left
                   · (simp only [Act.put, List.setIfInBounds_toArray, List.set_cons_zero, List.set_cons_succ]; with_reducible rfl)))
              refine seq_nil ?_
              clear HS
              have HB4 := Lib.hid (HB3.out.keep hKc)
              have HZ4 := Lib.hid (HZ3.out.keep hKc)
              have hK4 := hK3.trans hKc
              clear hKc
              generalize W3.drew = W4 at *
              have c1 : W4.cell? ⟨b, off + j, none⟩ = some (.int .i64 v) := by rw [hK4.cell (p := ⟨b, off + j, none⟩) hb]; exact HW.out
              obtain ⟨a0, a1, a2, a3⟩ := HB4.out.cells
              obtain ⟨f0, f1, f2, f3⟩ := HB4.out.free
              dsimp only at a0 a1 a2 a3
              go_wp2_with fail
              go_roundw
              case rel =>
                exact ⟨j + 1, hlt, by go_num, hK4, HZ4.out, by rw [HQ.out]; exact HB4.out⟩
              case measure => simp [intOf]; omega
    · obtain rfl : j = n := by omega
      have hf : zs.take j = zs := List.take_of_length_le (by rw [HL.out]; exact Nat.le_refl _)
      have hcc : (ofL zs).c = j := by rw [(isOf zs (by rw [HL.out]; exact hn) HZ.out).c, HL.out]
      rw [hf] at K1
      obtain ⟨q, hq⟩ : ∃ q, ofL zs = q := ⟨_, rfl⟩
      rw [hq] at K1 hcc
      have HQ := Lib.hid hq
      have HE := Lib.hid (show q = ⟨j, q.s, q.mn, q.mx⟩ by rw [← hcc])
      clear hf hj hq hcc
      obtain ⟨a0, a1, a2, a3⟩ := K1.out.cells
      obtain ⟨b0, b1, b2, b3⟩ := K0.out.cells
      obtain ⟨f0, f1, f2, f3⟩ := K0.out.free
      dsimp only at a0 a1 a2 a3
      go_wp2
      exact bodyPost_ret (v := .agg #[.int .i64 j, .int .i64 q.s, .int .i64 q.mn, .int .i64 q.mx]) (by simp [results, Try.results27, go_sem, b0, b1, b2, b3]) rfl ⟨ret_ag ((HQ.out.trans HE.out).symm), set_keep hk (Nat.le_refl _)⟩
end Go.Proofs.Ytopengbflnoneaa
