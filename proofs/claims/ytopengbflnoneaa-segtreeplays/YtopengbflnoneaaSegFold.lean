/- segtree.fold: what is told of a span's keys below a node. -/
import Derived.Test.YtopengbflnoneaaSegFn
import Derived.Test.YtopengbflnoneaaAggFn
import Derived.Test.YtopengbflnoneaaSeq
namespace Go.Proofs.Ytopengbflnoneaa
open Go.RowKit

section
variable {P : Program} {Q : Exit → Act → World → Prop} {S : World → Prop}
/-- A store that stands alone. -/
theorem seq_store {o : Oper} {gs : Option (Option Tmp × Bool)} {rest : List (Option RowR)} {a a' : Act} {w w' : World} (hw : wantR gs a.tmps = true) (hr : (execOp a.eval o).run P w = .ok .skip w') (hS : S w') (ha : a.put o.dst undef = a') (h : SeqR P Q S rest a' w') :
    SeqR P Q S (some ⟨o, gs, true⟩ :: rest) a w := by
  subst ha
  refine .inl ⟨rfl, fun K hK => ?_⟩
  simp only [hw, if_true]
  unfold Oper.wp
  rw [hr]
  exact hK.out _ _ hS h
end
/-- A span in a block of its own. -/
def SpB (w : World) (b : Nat) (x y : Int) : Prop := w.heap[b]? = some (.cells #[.int .u32 x, .int .u32 y] 36 (0, 0))
theorem SpB.new (w : World) (x y : Int) : SpB (w.alloc (.cells #[.int .u32 x, .int .u32 y] 36)) w.heap.size x y := World.alloc_heap_new _ _
theorem SpB.lt {w : World} {b : Nat} {x y : Int} (h : SpB w b x y) : b < w.heap.size := (Array.getElem?_eq_some_iff.1 h).1
theorem SpB.keep {w w' : World} {b : Nat} {x y : Int} (h : SpB w b x y) (hk : Keep w w') : SpB w' b x y := (hk.block b h.lt).trans h
theorem SpB.only {w w' : World} {S : Nat → Prop} {b : Nat} {x y : Int} (h : SpB w b x y) (ho : Only S w w') (hS : ¬ S b) : SpB w' b x y := (ho.block b h.lt hS).trans h
theorem SpB.cells {w : World} {b : Nat} {x y : Int} (h : SpB w b x y) : w.cell? ⟨b, 0, none⟩ = some (.int .u32 x) ∧ w.cell? ⟨b, 1, none⟩ = some (.int .u32 y) := by
  unfold SpB at h
  simp [World.cell?, h]

/-- What fold is told of a tree. -/
structure FoldAt (xs : List Nd) (h : Nat) (lo i : Int) (t : Sh) (kvs : List (Int × Int)) : Prop where
  lo0 : 0 ≤ lo
  hi0 : lo + 2 ^ h - 1 ≤ 4294967295
  shp : Shp xs t
  fit : Sh.fit h t
  num : Num xs t i
  i0 : -2147483648 ≤ i ∧ i ≤ 2147483647
  val : Val xs h lo t kvs
  few : kvs.length ≤ 1000000

theorem boxes3 (w : World) (lo hi p q : Int) : SpB (((w.alloc (.cells #[.int .u32 lo, .int .u32 hi] 36)).alloc (.cells #[.int .u32 p, .int .u32 q] 36)).alloc (.cells #[.int .i64 0, .int .i64 0, .int .i64 0, .int .i64 0] 38)) w.heap.size lo hi ∧ SpB (((w.alloc (.cells #[.int .u32 lo, .int .u32 hi] 36)).alloc (.cells #[.int .u32 p, .int .u32 q] 36)).alloc (.cells #[.int .i64 0, .int .i64 0, .int .i64 0, .int .i64 0] 38)) (w.heap.size + 1) p q ∧ AgAt (((w.alloc (.cells #[.int .u32 lo, .int .u32 hi] 36)).alloc (.cells #[.int .u32 p, .int .u32 q] 36)).alloc (.cells #[.int .i64 0, .int .i64 0, .int .i64 0, .int .i64 0] 38)) (w.heap.size + 1 + 1) nil0 := by
  have h1 := ((SpB.new w lo hi).keep ((Keep.refl _).alloc (.cells #[.int .u32 p, .int .u32 q] 36))).keep ((Keep.refl _).alloc (.cells #[.int .i64 0, .int .i64 0, .int .i64 0, .int .i64 0] 38))
  have h2 := (SpB.new (w.alloc (.cells #[.int .u32 lo, .int .u32 hi] 36)) p q).keep ((Keep.refl _).alloc (.cells #[.int .i64 0, .int .i64 0, .int .i64 0, .int .i64 0] 38))
  have h3 := AgAt.new ((w.alloc (.cells #[.int .u32 lo, .int .u32 hi] 36)).alloc (.cells #[.int .u32 p, .int .u32 q] 36)) nil0
  simp only [World.size_alloc] at h2 h3
  exact ⟨h1, h2, h3⟩
set_option maxRecDepth 100000 in
set_option maxHeartbeats 2000000 in
/-- A node that has nothing tells nothing. -/
theorem fold_none {b : Nat} {i lo hi p q : Int} {z : Nd} {w : World} (hz : z.c = 0) (hN : ∀ W, Keep w W → Calls Try.prog 55 #[.pointer (some ⟨b, 0, none⟩), .int .i32 i] W fun e w' => e = .returned (.agg #[.int .i32 z.l, .int .i32 z.r, .int .i64 z.c, .int .i64 z.s, .int .i64 z.mn, .int .i64 z.mx, .bool z.k]) ∧ Keep W w') :
    Calls Try.prog 35 #[.pointer (some ⟨b, 0, none⟩), .int .i32 i, .agg #[.int .u32 lo, .int .u32 hi], .agg #[.int .u32 p, .int .u32 q]] w fun e w' => e = .returned (.agg #[.int .i64 0, .int .i64 0, .int .i64 0, .int .i64 0]) ∧ Keep w w' := by
  have HK := Lib.hid ((((Keep.refl w).alloc (.cells #[.int .u32 lo, .int .u32 hi] 36)).alloc (.cells #[.int .u32 p, .int .u32 q] 36)).alloc (.cells #[.int .i64 0, .int .i64 0, .int .i64 0, .int .i64 0] 38))
  have HN := Lib.hid (hN _ HK.out)
  obtain ⟨hb1, hb2, hb3⟩ := boxes3 w lo hi p q
  have HB1 := Lib.hid hb1
  have HB2 := Lib.hid hb2
  have HB3 := Lib.hid hb3
  clear hN hb1 hb2 hb3
  go_enter Try.func35, Try.ntmps35
  go_wp2_with fail
  generalize (((w.alloc (.cells #[.int .u32 lo, .int .u32 hi] 36)).alloc (.cells #[.int .u32 p, .int .u32 q] 36)).alloc (.cells #[.int .i64 0, .int .i64 0, .int .i64 0, .int .i64 0] 38)) = W3 at *
  refine HN.out.mono ?_
  rintro e w1 ⟨rfl, hk1⟩
  have hB1 := HB1.out.keep hk1
  have hB2 := HB2.out.keep hk1
  have hB3 := HB3.out.keep hk1
  obtain ⟨p0, p1⟩ := hB1.cells
  obtain ⟨q0, q1⟩ := hB2.cells
  obtain ⟨a0, a1, a2, a3⟩ := hB3.cells
  dsimp only [nil0] at a0 a1 a2 a3
  obtain ⟨f0, f1, f2, f3⟩ := hB3.free
  have l1 := hB1.lt
  have l2 := hB2.lt
  have l3 := hB3.lt
  have H1 := Lib.hid hB1
  have H2 := Lib.hid hB2
  have H3 := Lib.hid hB3
  have HK1 := Lib.hid (HK.out.trans hk1)
  clear hk1 hB1 hB2 hB3 HN HB1 HB2 HB3 HK
  have hzc : (z.c == 0) = true := by rw [beq_iff_eq]; exact hz
  clear hz H1 H2
  go_wp2
  have hO : Only (fun k => k = w.heap.size + 1 + 1) w1 ((((w1.setCell ⟨w.heap.size + 1 + 1, 0, none⟩ (.int .i64 0)).setCell ⟨w.heap.size + 1 + 1, 1, none⟩ (.int .i64 0)).setCell ⟨w.heap.size + 1 + 1, 2, none⟩ (.int .i64 0)).setCell ⟨w.heap.size + 1 + 1, 3, none⟩ (.int .i64 0)) := set_only (Only.refl _ w1) rfl
  have hF := set_at H3.out 0 0 0 0
  have hkF := Only.keep HK1.out hO (fun k hk => by omega)
  generalize (((w1.setCell ⟨w.heap.size + 1 + 1, 0, none⟩ (.int .i64 0)).setCell ⟨w.heap.size + 1 + 1, 1, none⟩ (.int .i64 0)).setCell ⟨w.heap.size + 1 + 1, 2, none⟩ (.int .i64 0)).setCell ⟨w.heap.size + 1 + 1, 3, none⟩ (.int .i64 0) = WF at *
  replace hF := hF.keep ((Keep.refl _).alloc (.cells #[.int .i32 z.l, .int .i32 z.r, .int .i64 z.c, .int .i64 z.s, .int .i64 z.mn, .int .i64 z.mx, .bool z.k] 96))
  replace hkF := hkF.alloc (.cells #[.int .i32 z.l, .int .i32 z.r, .int .i64 z.c, .int .i64 z.s, .int .i64 z.mn, .int .i64 z.mx, .bool z.k] 96)
  generalize WF.alloc (.cells #[.int .i32 z.l, .int .i32 z.r, .int .i64 z.c, .int .i64 z.s, .int .i64 z.mn, .int .i64 z.mx, .bool z.k] 96) = WG at *
  obtain ⟨g0, g1, g2, g3⟩ := hF.cells
  dsimp only at g0 g1 g2 g3
  exact bodyPost_ret (v := .agg #[.int .i64 0, .int .i64 0, .int .i64 0, .int .i64 0]) (by simp [results, Try.results35, go_sem, g0, g1, g2, g3]) rfl ⟨rfl, hkF⟩
set_option maxRecDepth 100000 in
set_option maxHeartbeats 2000000 in
theorem fold_apart {b : Nat} {i lo hi p q : Int} {z : Nd} {w : World} (hz : z.c ≠ 0) (ha : decide (q < p ∨ hi < p ∨ q < lo) = true) (hN : ∀ W, Keep w W → Calls Try.prog 55 #[.pointer (some ⟨b, 0, none⟩), .int .i32 i] W fun e w' => e = .returned (.agg #[.int .i32 z.l, .int .i32 z.r, .int .i64 z.c, .int .i64 z.s, .int .i64 z.mn, .int .i64 z.mx, .bool z.k]) ∧ Keep W w') :
    Calls Try.prog 35 #[.pointer (some ⟨b, 0, none⟩), .int .i32 i, .agg #[.int .u32 lo, .int .u32 hi], .agg #[.int .u32 p, .int .u32 q]] w fun e w' => e = .returned (.agg #[.int .i64 0, .int .i64 0, .int .i64 0, .int .i64 0]) ∧ Keep w w' := by
  have HA := Lib.hid ha
  clear ha
  have HK := Lib.hid ((((Keep.refl w).alloc (.cells #[.int .u32 lo, .int .u32 hi] 36)).alloc (.cells #[.int .u32 p, .int .u32 q] 36)).alloc (.cells #[.int .i64 0, .int .i64 0, .int .i64 0, .int .i64 0] 38))
  have HN := Lib.hid (hN _ HK.out)
  obtain ⟨hb1, hb2, hb3⟩ := boxes3 w lo hi p q
  have HB1 := Lib.hid hb1
  have HB2 := Lib.hid hb2
  have HB3 := Lib.hid hb3
  clear hN hb1 hb2 hb3
  go_enter Try.func35, Try.ntmps35
  go_wp2_with fail
  generalize (((w.alloc (.cells #[.int .u32 lo, .int .u32 hi] 36)).alloc (.cells #[.int .u32 p, .int .u32 q] 36)).alloc (.cells #[.int .i64 0, .int .i64 0, .int .i64 0, .int .i64 0] 38)) = W3 at *
  refine HN.out.mono ?_
  rintro e w1 ⟨rfl, hk1⟩
  have hB1 := HB1.out.keep hk1
  have hB2 := HB2.out.keep hk1
  have hB3 := HB3.out.keep hk1
  obtain ⟨p0, p1⟩ := hB1.cells
  obtain ⟨q0, q1⟩ := hB2.cells
  obtain ⟨a0, a1, a2, a3⟩ := hB3.cells
  dsimp only [nil0] at a0 a1 a2 a3
  obtain ⟨f0, f1, f2, f3⟩ := hB3.free
  have l1 := hB1.lt
  have l2 := hB2.lt
  have l3 := hB3.lt
  have H1 := Lib.hid hB1
  have H2 := Lib.hid hB2
  have H3 := Lib.hid hB3
  have HK1 := Lib.hid (HK.out.trans hk1)
  clear hk1 hB1 hB2 hB3 HN HB1 HB2 HB3 HK
  have hzc : (z.c == 0) = false := by rw [beq_eq_false_iff_ne]; exact hz
  have HZ := Lib.hid (NdAt.new w1 z)
  have HKa := Lib.hid ((Keep.refl w1).alloc (.cells #[.int .i32 z.l, .int .i32 z.r, .int .i64 z.c, .int .i64 z.s, .int .i64 z.mn, .int .i64 z.mx, .bool z.k] 96))
  clear hz
  go_wp2_with fail
  generalize w1.alloc (.cells #[.int .i32 z.l, .int .i32 z.r, .int .i64 z.c, .int .i64 z.s, .int .i64 z.mn, .int .i64 z.mx, .bool z.k] 96) = V at *
  refine (apart_is lo hi p q true V HA.out).mono ?_
  rintro e w2 ⟨rfl, hk2⟩
  have hk12 := HKa.out.trans hk2
  have H1' := Lib.hid (H1.out.keep hk12)
  have H2' := Lib.hid (H2.out.keep hk12)
  have H3' := Lib.hid (H3.out.keep hk12)
  have HZ' := Lib.hid (HZ.out.keep hk2)
  have HK1' := Lib.hid (HK1.out.trans hk12)
  clear hk2 hk12 H1 H2 H3 HZ HK1 HKa p0 p1 q0 q1 a0 a1 a2 a3 f0 f1 f2 f3
  obtain ⟨H1, H2, H3, HZ, HK1⟩ := And.intro H1' (And.intro H2' (And.intro H3' (And.intro HZ' HK1')))
  clear H1' H2' H3' HZ' HK1'
  obtain ⟨p0, p1⟩ := H1.out.cells
  obtain ⟨q0, q1⟩ := H2.out.cells
  obtain ⟨a0, a1, a2, a3⟩ := H3.out.cells
  dsimp only [nil0] at a0 a1 a2 a3
  obtain ⟨f0, f1, f2, f3⟩ := H3.out.free
  obtain ⟨n0, n1, n2, n3, n4, n5, n6⟩ := HZ.out.cells
  go_wp2
  have hO : Only (fun k => k = w.heap.size + 1 + 1) w2 ((((w2.setCell ⟨w.heap.size + 1 + 1, 0, none⟩ (.int .i64 0)).setCell ⟨w.heap.size + 1 + 1, 1, none⟩ (.int .i64 0)).setCell ⟨w.heap.size + 1 + 1, 2, none⟩ (.int .i64 0)).setCell ⟨w.heap.size + 1 + 1, 3, none⟩ (.int .i64 0)) := set_only (Only.refl _ w2) rfl
  have hF := set_at H3.out 0 0 0 0
  have hkF := Only.keep HK1.out hO (fun k hk => by omega)
  generalize (((w2.setCell ⟨w.heap.size + 1 + 1, 0, none⟩ (.int .i64 0)).setCell ⟨w.heap.size + 1 + 1, 1, none⟩ (.int .i64 0)).setCell ⟨w.heap.size + 1 + 1, 2, none⟩ (.int .i64 0)).setCell ⟨w.heap.size + 1 + 1, 3, none⟩ (.int .i64 0) = WF at *
  obtain ⟨g0, g1, g2, g3⟩ := hF.cells
  dsimp only at g0 g1 g2 g3
  exact bodyPost_ret (v := .agg #[.int .i64 0, .int .i64 0, .int .i64 0, .int .i64 0]) (by simp [results, Try.results35, go_sem, g0, g1, g2, g3]) rfl ⟨rfl, hkF⟩
set_option maxRecDepth 100000 in
set_option maxHeartbeats 2000000 in
theorem fold_within {b : Nat} {i lo hi p q : Int} {z : Nd} {w : World} (hz : z.c ≠ 0) (ha : decide (q < p ∨ hi < p ∨ q < lo) = false) (hi' : decide (p ≤ lo ∧ hi ≤ q) = true) (hN : ∀ W, Keep w W → Calls Try.prog 55 #[.pointer (some ⟨b, 0, none⟩), .int .i32 i] W fun e w' => e = .returned (.agg #[.int .i32 z.l, .int .i32 z.r, .int .i64 z.c, .int .i64 z.s, .int .i64 z.mn, .int .i64 z.mx, .bool z.k]) ∧ Keep W w') :
    Calls Try.prog 35 #[.pointer (some ⟨b, 0, none⟩), .int .i32 i, .agg #[.int .u32 lo, .int .u32 hi], .agg #[.int .u32 p, .int .u32 q]] w fun e w' => e = .returned (.agg #[.int .i64 (nag z).c, .int .i64 (nag z).s, .int .i64 (nag z).mn, .int .i64 (nag z).mx]) ∧ Keep w w' := by
  have HA := Lib.hid ha
  have HI := Lib.hid hi'
  clear ha hi'
  have HK := Lib.hid ((((Keep.refl w).alloc (.cells #[.int .u32 lo, .int .u32 hi] 36)).alloc (.cells #[.int .u32 p, .int .u32 q] 36)).alloc (.cells #[.int .i64 0, .int .i64 0, .int .i64 0, .int .i64 0] 38))
  have HN := Lib.hid (hN _ HK.out)
  obtain ⟨hb1, hb2, hb3⟩ := boxes3 w lo hi p q
  have HB1 := Lib.hid hb1
  have HB2 := Lib.hid hb2
  have HB3 := Lib.hid hb3
  clear hN hb1 hb2 hb3
  go_enter Try.func35, Try.ntmps35
  go_wp2_with fail
  generalize (((w.alloc (.cells #[.int .u32 lo, .int .u32 hi] 36)).alloc (.cells #[.int .u32 p, .int .u32 q] 36)).alloc (.cells #[.int .i64 0, .int .i64 0, .int .i64 0, .int .i64 0] 38)) = W3 at *
  refine HN.out.mono ?_
  rintro e w1 ⟨rfl, hk1⟩
  have hB1 := HB1.out.keep hk1
  have hB2 := HB2.out.keep hk1
  have hB3 := HB3.out.keep hk1
  obtain ⟨p0, p1⟩ := hB1.cells
  obtain ⟨q0, q1⟩ := hB2.cells
  obtain ⟨a0, a1, a2, a3⟩ := hB3.cells
  dsimp only [nil0] at a0 a1 a2 a3
  obtain ⟨f0, f1, f2, f3⟩ := hB3.free
  have l1 := hB1.lt
  have l2 := hB2.lt
  have l3 := hB3.lt
  have H1 := Lib.hid hB1
  have H2 := Lib.hid hB2
  have H3 := Lib.hid hB3
  have HK1 := Lib.hid (HK.out.trans hk1)
  clear hk1 hB1 hB2 hB3 HN HB1 HB2 HB3 HK
  have hzc : (z.c == 0) = false := by rw [beq_eq_false_iff_ne]; exact hz
  have HZ := Lib.hid (NdAt.new w1 z)
  have HKa := Lib.hid ((Keep.refl w1).alloc (.cells #[.int .i32 z.l, .int .i32 z.r, .int .i64 z.c, .int .i64 z.s, .int .i64 z.mn, .int .i64 z.mx, .bool z.k] 96))
  clear hz
  go_wp2_with fail
  generalize w1.alloc (.cells #[.int .i32 z.l, .int .i32 z.r, .int .i64 z.c, .int .i64 z.s, .int .i64 z.mn, .int .i64 z.mx, .bool z.k] 96) = V at *
  refine (apart_is lo hi p q false V HA.out).mono ?_
  rintro e w2 ⟨rfl, hk2⟩
  have hk12 := HKa.out.trans hk2
  have H1' := Lib.hid (H1.out.keep hk12)
  have H2' := Lib.hid (H2.out.keep hk12)
  have H3' := Lib.hid (H3.out.keep hk12)
  have HZ' := Lib.hid (HZ.out.keep hk2)
  have HK1' := Lib.hid (HK1.out.trans hk12)
  clear hk2 hk12 H1 H2 H3 HZ HK1 HKa p0 p1 q0 q1 a0 a1 a2 a3 f0 f1 f2 f3
  obtain ⟨H1, H2, H3, HZ, HK1⟩ := And.intro H1' (And.intro H2' (And.intro H3' (And.intro HZ' HK1')))
  clear H1' H2' H3' HZ' HK1'
  obtain ⟨p0, p1⟩ := H1.out.cells
  obtain ⟨q0, q1⟩ := H2.out.cells
  obtain ⟨a0, a1, a2, a3⟩ := H3.out.cells
  dsimp only [nil0] at a0 a1 a2 a3
  obtain ⟨f0, f1, f2, f3⟩ := H3.out.free
  obtain ⟨n0, n1, n2, n3, n4, n5, n6⟩ := HZ.out.cells
  go_wp2_with fail
  refine (within_is lo hi p q true w2 HI.out).mono ?_
  rintro e w3 ⟨rfl, hk3⟩
  have H1' := Lib.hid (H1.out.keep hk3)
  have H2' := Lib.hid (H2.out.keep hk3)
  have H3' := Lib.hid (H3.out.keep hk3)
  have HZ' := Lib.hid (HZ.out.keep hk3)
  have HK1' := Lib.hid (HK1.out.trans hk3)
  clear hk3 H1 H2 H3 HZ HK1 n0 n1 n2 n3 n4 n5 n6 p0 p1 q0 q1 a0 a1 a2 a3 f0 f1 f2 f3
  obtain ⟨H1, H2, H3, HZ, HK1⟩ := And.intro H1' (And.intro H2' (And.intro H3' (And.intro HZ' HK1')))
  clear H1' H2' H3' HZ' HK1'
  obtain ⟨p0, p1⟩ := H1.out.cells
  obtain ⟨q0, q1⟩ := H2.out.cells
  obtain ⟨a0, a1, a2, a3⟩ := H3.out.cells
  dsimp only [nil0] at a0 a1 a2 a3
  obtain ⟨f0, f1, f2, f3⟩ := H3.out.free
  obtain ⟨n0, n1, n2, n3, n4, n5, n6⟩ := HZ.out.cells
  go_wp2
  have hO : Only (fun k => k = w.heap.size + 1 + 1) w3 ((((w3.setCell ⟨w.heap.size + 1 + 1, 0, none⟩ (.int .i64 z.c)).setCell ⟨w.heap.size + 1 + 1, 1, none⟩ (.int .i64 z.s)).setCell ⟨w.heap.size + 1 + 1, 2, none⟩ (.int .i64 z.mn)).setCell ⟨w.heap.size + 1 + 1, 3, none⟩ (.int .i64 z.mx)) := set_only (Only.refl _ w3) rfl
  have hF := set_at H3.out z.c z.s z.mn z.mx
  have hkF := Only.keep HK1.out hO (fun k hk => by omega)
  generalize (((w3.setCell ⟨w.heap.size + 1 + 1, 0, none⟩ (.int .i64 z.c)).setCell ⟨w.heap.size + 1 + 1, 1, none⟩ (.int .i64 z.s)).setCell ⟨w.heap.size + 1 + 1, 2, none⟩ (.int .i64 z.mn)).setCell ⟨w.heap.size + 1 + 1, 3, none⟩ (.int .i64 z.mx) = WF at *
  obtain ⟨g0, g1, g2, g3⟩ := hF.cells
  dsimp only at g0 g1 g2 g3
  exact bodyPost_ret (v := .agg #[.int .i64 z.c, .int .i64 z.s, .int .i64 z.mn, .int .i64 z.mx]) (by simp [results, Try.results35, go_sem, g0, g1, g2, g3]) rfl ⟨rfl, hkF⟩
section
variable {P : Program} {Q : Exit → Act → World → Prop} {S R : World → Prop}
/-- A call that is wanted: its contract says what it answers, that S holds behind it, and what else. -/
theorem seq_callR {o : Oper} {gs : Option (Option Tmp × Bool)} {rest : List (Option RowR)} {a a' : Act} {w : World} {x : Operand} {xs : Array Operand} {ts : Array TypeId} {f : FuncId} {args : Array Value} {v : Value} (hw : wantR gs a.tmps = true)
    (ho : o.op = .call { callee := .value x, args := xs, argTypes := ts }) (hx : a.eval x = .func (.func f) #[] #[]) (hf : ∀ (args : Array Value) (w : World), (callFunc f args).run P w = .ok (.enter f args) w) (hargs : xs.map a.eval = args)
    (hc : Calls P f args w fun e w' => e = .returned v ∧ S w' ∧ R w') (ha : a.put o.dst v = a') (h : ∀ w', S w' → R w' → SeqR P Q S rest a' w') :
    SeqR P Q S (some ⟨o, gs, true⟩ :: rest) a w := by
  subst ha
  refine .inl ⟨rfl, fun K hK => ?_⟩
  simp only [hw, if_true]
  unfold Oper.wp
  rw [run_callv ho hx hf hargs]
  refine Calls.mono hc fun e w' ⟨he, hS, hR⟩ => ?_
  subst he
  exact hK.out _ _ hS (h w' hS hR)
end
set_option maxRecDepth 100000 in
set_option maxHeartbeats 2000000 in
theorem fold_both {b : Nat} {i lo hi p q mid : Int} {z : Nd} {x y : Ag} {w : World} (hz : z.c ≠ 0) (ha : decide (q < p ∨ hi < p ∨ q < lo) = false) (hi' : decide (p ≤ lo ∧ hi ≤ q) = false) (h0 : 0 ≤ lo) (h1 : lo < hi) (h2 : hi ≤ 4294967295) (hm : lo + (hi - lo) / 2 = mid) (hN : ∀ W, Keep w W → Calls Try.prog 55 #[.pointer (some ⟨b, 0, none⟩), .int .i32 i] W fun e w' => e = .returned (.agg #[.int .i32 z.l, .int .i32 z.r, .int .i64 z.c, .int .i64 z.s, .int .i64 z.mn, .int .i64 z.mx, .bool z.k]) ∧ Keep W w')
    (hL : ∀ W, Keep w W → Calls Try.prog 35 #[.pointer (some ⟨b, 0, none⟩), .int .i32 z.l, .agg #[.int .u32 lo, .int .u32 mid], .agg #[.int .u32 p, .int .u32 q]] W fun e w' => e = .returned (.agg #[.int .i64 x.c, .int .i64 x.s, .int .i64 x.mn, .int .i64 x.mx]) ∧ Keep W w')
    (hR : ∀ W, Keep w W → Calls Try.prog 35 #[.pointer (some ⟨b, 0, none⟩), .int .i32 z.r, .agg #[.int .u32 (mid + 1), .int .u32 hi], .agg #[.int .u32 p, .int .u32 q]] W fun e w' => e = .returned (.agg #[.int .i64 y.c, .int .i64 y.s, .int .i64 y.mn, .int .i64 y.mx]) ∧ Keep W w') :
    Calls Try.prog 35 #[.pointer (some ⟨b, 0, none⟩), .int .i32 i, .agg #[.int .u32 lo, .int .u32 hi], .agg #[.int .u32 p, .int .u32 q]] w fun e w' => e = .returned (.agg #[.int .i64 (mrg x y).c, .int .i64 (mrg x y).s, .int .i64 (mrg x y).mn, .int .i64 (mrg x y).mx]) ∧ Keep w w' := by
  have HA := Lib.hid ha
  have HI := Lib.hid hi'
  have HL := Lib.hid hL
  have HR := Lib.hid hR
  have HH := Lib.hid (fun W => halves_is lo hi mid W h0 h1 h2 hm)
  clear ha hi' hL hR hm
  have HK := Lib.hid ((((Keep.refl w).alloc (.cells #[.int .u32 lo, .int .u32 hi] 36)).alloc (.cells #[.int .u32 p, .int .u32 q] 36)).alloc (.cells #[.int .i64 0, .int .i64 0, .int .i64 0, .int .i64 0] 38))
  have HN := Lib.hid (hN _ HK.out)
  obtain ⟨hb1, hb2, hb3⟩ := boxes3 w lo hi p q
  have HB1 := Lib.hid hb1
  have HB2 := Lib.hid hb2
  have HB3 := Lib.hid hb3
  clear hN hb1 hb2 hb3
  go_enter Try.func35, Try.ntmps35
  go_wp2_with fail
  generalize (((w.alloc (.cells #[.int .u32 lo, .int .u32 hi] 36)).alloc (.cells #[.int .u32 p, .int .u32 q] 36)).alloc (.cells #[.int .i64 0, .int .i64 0, .int .i64 0, .int .i64 0] 38)) = W3 at *
  refine HN.out.mono ?_
  rintro e w1 ⟨rfl, hk1⟩
  have hB1 := HB1.out.keep hk1
  have hB2 := HB2.out.keep hk1
  have hB3 := HB3.out.keep hk1
  obtain ⟨p0, p1⟩ := hB1.cells
  obtain ⟨q0, q1⟩ := hB2.cells
  obtain ⟨a0, a1, a2, a3⟩ := hB3.cells
  dsimp only [nil0] at a0 a1 a2 a3
  obtain ⟨f0, f1, f2, f3⟩ := hB3.free
  have l1 := hB1.lt
  have l2 := hB2.lt
  have l3 := hB3.lt
  have H1 := Lib.hid hB1
  have H2 := Lib.hid hB2
  have H3 := Lib.hid hB3
  have HK1 := Lib.hid (HK.out.trans hk1)
  clear hk1 hB1 hB2 hB3 HN HB1 HB2 HB3 HK
  have hzc : (z.c == 0) = false := by rw [beq_eq_false_iff_ne]; exact hz
  have HZ := Lib.hid (NdAt.new w1 z)
  have HKa := Lib.hid ((Keep.refl w1).alloc (.cells #[.int .i32 z.l, .int .i32 z.r, .int .i64 z.c, .int .i64 z.s, .int .i64 z.mn, .int .i64 z.mx, .bool z.k] 96))
  clear hz
  go_wp2_with fail
  generalize w1.alloc (.cells #[.int .i32 z.l, .int .i32 z.r, .int .i64 z.c, .int .i64 z.s, .int .i64 z.mn, .int .i64 z.mx, .bool z.k] 96) = V at *
  refine (apart_is lo hi p q false V HA.out).mono ?_
  rintro e w2 ⟨rfl, hk2⟩
  have hk12 := HKa.out.trans hk2
  have H1' := Lib.hid (H1.out.keep hk12)
  have H2' := Lib.hid (H2.out.keep hk12)
  have H3' := Lib.hid (H3.out.keep hk12)
  have HZ' := Lib.hid (HZ.out.keep hk2)
  have HK1' := Lib.hid (HK1.out.trans hk12)
  clear hk2 hk12 H1 H2 H3 HZ HK1 HKa p0 p1 q0 q1 a0 a1 a2 a3 f0 f1 f2 f3
  obtain ⟨H1, H2, H3, HZ, HK1⟩ := And.intro H1' (And.intro H2' (And.intro H3' (And.intro HZ' HK1')))
  clear H1' H2' H3' HZ' HK1'
  obtain ⟨p0, p1⟩ := H1.out.cells
  obtain ⟨q0, q1⟩ := H2.out.cells
  obtain ⟨a0, a1, a2, a3⟩ := H3.out.cells
  dsimp only [nil0] at a0 a1 a2 a3
  obtain ⟨f0, f1, f2, f3⟩ := H3.out.free
  obtain ⟨n0, n1, n2, n3, n4, n5, n6⟩ := HZ.out.cells
  go_wp2_with fail
  refine (within_is lo hi p q false w2 HI.out).mono ?_
  rintro e w3 ⟨rfl, hk3⟩
  have H1' := Lib.hid (H1.out.keep hk3)
  have H2' := Lib.hid (H2.out.keep hk3)
  have H3' := Lib.hid (H3.out.keep hk3)
  have HZ' := Lib.hid (HZ.out.keep hk3)
  have HK1' := Lib.hid (HK1.out.trans hk3)
  clear hk3 H1 H2 H3 HZ HK1 n0 n1 n2 n3 n4 n5 n6 p0 p1 q0 q1 a0 a1 a2 a3 f0 f1 f2 f3
  obtain ⟨H1, H2, H3, HZ, HK1⟩ := And.intro H1' (And.intro H2' (And.intro H3' (And.intro HZ' HK1')))
  clear H1' H2' H3' HZ' HK1'
  obtain ⟨p0, p1⟩ := H1.out.cells
  obtain ⟨q0, q1⟩ := H2.out.cells
  obtain ⟨a0, a1, a2, a3⟩ := H3.out.cells
  dsimp only [nil0] at a0 a1 a2 a3
  obtain ⟨f0, f1, f2, f3⟩ := H3.out.free
  obtain ⟨n0, n1, n2, n3, n4, n5, n6⟩ := HZ.out.cells
  go_wp2_with fail
  refine (HH.out w3).mono ?_
  rintro e w4 ⟨rfl, hk4⟩
  have HK4 := Lib.hid (hk4.alloc (.cells #[.int .u32 lo, .int .u32 mid] 36) |>.alloc (.cells #[.int .u32 (mid + 1), .int .u32 hi] 36))
  have hs1 := (SpB.new w4 lo mid).keep ((Keep.refl _).alloc (.cells #[.int .u32 (mid + 1), .int .u32 hi] 36))
  have hs2 := SpB.new (w4.alloc (.cells #[.int .u32 lo, .int .u32 mid] 36)) (mid + 1) hi
  simp only [World.size_alloc] at hs2
  have HS1 := Lib.hid hs1
  have HS2 := Lib.hid hs2
  have HL4 := Lib.hid (Nat.lt_of_lt_of_le H3.out.lt hk4.size)
  clear hk4 hs1 hs2 n0 n1 n2 n3 n4 n5 n6 p0 p1 q0 q1 a0 a1 a2 a3 f0 f1 f2 f3
  go_wp2_with fail
  generalize (w4.alloc (.cells #[.int .u32 lo, .int .u32 mid] 36)).alloc (.cells #[.int .u32 (mid + 1), .int .u32 hi] 36) = V4 at *
  have H2' := Lib.hid (H2.out.keep HK4.out)
  have H3' := Lib.hid (H3.out.keep HK4.out)
  have HZ' := Lib.hid (HZ.out.keep HK4.out)
  have HKV := Lib.hid (HK1.out.trans HK4.out)
  have HSS := Lib.hid (show ∀ w', Only (fun k => k = w.heap.size + 1 + 1) V4 w' → Only (fun k => k = w.heap.size + 1 + 1) V4 w' ∧ (((w'.cell? ⟨w4.heap.size, 0, none⟩ = some (.int .u32 lo) ∧ w'.cell? ⟨w4.heap.size, 1, none⟩ = some (.int .u32 mid)) ∧ (w'.cell? ⟨w4.heap.size + 1, 0, none⟩ = some (.int .u32 (mid + 1)) ∧ w'.cell? ⟨w4.heap.size + 1, 1, none⟩ = some (.int .u32 hi))) ∧ ((w'.cell? ⟨w.heap.size + 1, 0, none⟩ = some (.int .u32 p) ∧ w'.cell? ⟨w.heap.size + 1, 1, none⟩ = some (.int .u32 q)) ∧ (w'.cell? ⟨w1.heap.size, 0, none⟩ = some (.int .i32 z.l) ∧ w'.cell? ⟨w1.heap.size, 1, none⟩ = some (.int .i32 z.r)))) from fun w' ho => ⟨ho,
    ⟨(SpB.only HS1.out ho (by have := HL4.out; omega)).cells, (SpB.only HS2.out ho (by have := HL4.out; omega)).cells⟩, (SpB.only H2'.out ho (by omega)).cells, (HZ'.out.only ho (by omega)).cells.1, (HZ'.out.only ho (by omega)).cells.2.1⟩)
  have hKc := (Keep.refl V4).drew
  clear H1 H2 H3 HZ HK4 HA HI HH
  refine seq_region (S := fun w' => Only (fun k => k = w.heap.size + 1 + 1) V4 w' ∧ (((w'.cell? ⟨w4.heap.size, 0, none⟩ = some (.int .u32 lo) ∧ w'.cell? ⟨w4.heap.size, 1, none⟩ = some (.int .u32 mid)) ∧ (w'.cell? ⟨w4.heap.size + 1, 0, none⟩ = some (.int .u32 (mid + 1)) ∧ w'.cell? ⟨w4.heap.size + 1, 1, none⟩ = some (.int .u32 hi))) ∧ ((w'.cell? ⟨w.heap.size + 1, 0, none⟩ = some (.int .u32 p) ∧ w'.cell? ⟨w.heap.size + 1, 1, none⟩ = some (.int .u32 q)) ∧ (w'.cell? ⟨w1.heap.size, 0, none⟩ = some (.int .i32 z.l) ∧ w'.cell? ⟨w1.heap.size, 1, none⟩ = some (.int .i32 z.r))))) [⟨0, 1, 137438953472⟩, ⟨0, 512, 274877906944⟩, ⟨2, 274877906944, 549755813888⟩, ⟨0, 1024, 1099511627776⟩, ⟨0, 128, 2199023255552⟩, ⟨29, 3985729650688, 4398046511104⟩, ⟨0, 1, 8796093022208⟩, ⟨0, 512, 17592186044416⟩, ⟨128, 17592186044416, 35184372088832⟩, ⟨0, 2048, 70368744177664⟩, ⟨0, 128, 140737488355328⟩, ⟨1888, 255086697644032, 281474976710656⟩, ⟨2080, 285873023221760, 562949953421312⟩, ⟨8191, 562949953421568, 0⟩] [(0, false), (1, false), (2, false), (3, false), (4, false), (6, false), (7, false), (8, false), (9, false), (10, false), (5, true), (11, true), (12, true), (13, true)] rfl (by kernel_rfl) (by kernel_rfl) (fun _ _ d _ _ h => by cases d <;> exact h) (HSS.out _ (Only.of_keep _ hKc)) ?_
  simp only [rowsOf, rowAt, gslot, List.map_cons, List.map_nil, List.getElem?_toArray, List.getElem?_cons_zero, List.getElem?_cons_succ]
  repeat (first
    | (refine seq_take (v := ?_) (a' := ?_) (by rfl) ?_ ?_ ?_
       rotate_left 2
       · (intro w hSw; obtain ⟨-, hSw⟩ := hSw; go_split_ands; go_simp; with_reducible rfl)
       · (simp only [Act.put, List.setIfInBounds_toArray, List.set_cons_zero, List.set_cons_succ]; with_reducible rfl)))
  refine seq_callR (R := fun w' => Keep V4 w') (f := 35) (args := ?_) (v := ?_) (a' := ?_) (by rfl) (by rfl) (by rfl) Try.call35 ?_ ?_ ?_ ?_
  rotate_left 3
  · (go_simp; with_reducible rfl)
  · ((with_reducible refine (HL.out _ (HKV.out.trans hKc)).mono ?_)
     rintro e w' ⟨rfl, hk⟩
     refine ⟨?_, HSS.out _ (Only.of_keep _ (hKc.trans hk)), hKc.trans hk⟩
     with_reducible rfl)
  · (simp only [Act.put, List.setIfInBounds_toArray, List.set_cons_zero, List.set_cons_succ]; with_reducible rfl)
  clear hKc
  intro w2' hw2 hKc
  clear hw2
  repeat (first
    | (refine seq_take (v := ?_) (a' := ?_) (by rfl) ?_ ?_ ?_
       rotate_left 2
       · (intro w hSw; obtain ⟨-, hSw⟩ := hSw; go_split_ands; go_simp; with_reducible rfl)
       · (simp only [Act.put, List.setIfInBounds_toArray, List.set_cons_zero, List.set_cons_succ]; with_reducible rfl)))
  refine seq_callR (R := fun w' => Keep V4 w') (f := 35) (args := ?_) (v := ?_) (a' := ?_) (by rfl) (by rfl) (by rfl) Try.call35 ?_ ?_ ?_ ?_
  rotate_left 3
  · (go_simp; with_reducible rfl)
  · ((with_reducible refine (HR.out _ (HKV.out.trans hKc)).mono ?_)
     rintro e w' ⟨rfl, hk⟩
     refine ⟨?_, HSS.out _ (Only.of_keep _ (hKc.trans hk)), hKc.trans hk⟩
     with_reducible rfl)
  · (simp only [Act.put, List.setIfInBounds_toArray, List.set_cons_zero, List.set_cons_succ]; with_reducible rfl)
  clear hKc
  intro w2' hw2 hKc
  clear hw2
  repeat (first
    | (refine seq_take (v := ?_) (a' := ?_) (by rfl) ?_ ?_ ?_
       rotate_left 2
       · (intro w hSw; obtain ⟨-, hSw⟩ := hSw; go_split_ands; go_simp; with_reducible rfl)
       · (simp only [Act.put, List.setIfInBounds_toArray, List.set_cons_zero, List.set_cons_succ]; with_reducible rfl)))
  refine seq_callR (R := fun w' => Keep V4 w') (f := 59) (args := ?_) (v := ?_) (a' := ?_) (by rfl) (by rfl) (by rfl) Try.call59 ?_ ?_ ?_ ?_
  rotate_left 3
  · (go_simp; with_reducible rfl)
  · ((with_reducible refine (merge_any _ _ _).mono ?_)
     rintro e w' ⟨rfl, hk⟩
     refine ⟨?_, HSS.out _ (Only.of_keep _ (hKc.trans hk)), hKc.trans hk⟩
     with_reducible rfl)
  · (simp only [Act.put, List.setIfInBounds_toArray, List.set_cons_zero, List.set_cons_succ]; with_reducible rfl)
  clear hKc
  intro w2' hw2 hKc
  clear hw2
  repeat (first
    | (refine seq_take (v := ?_) (a' := ?_) (by rfl) ?_ ?_ ?_
       rotate_left 2
       · (intro w hSw; obtain ⟨-, hSw⟩ := hSw; go_split_ands; go_simp; with_reducible rfl)
       · (simp only [Act.put, List.setIfInBounds_toArray, List.set_cons_zero, List.set_cons_succ]; with_reducible rfl)))
  have H3 := Lib.hid (H3'.out.keep hKc)
  have HK1 := Lib.hid (HKV.out.trans hKc)
  obtain ⟨a0, a1, a2, a3⟩ := H3.out.cells
  dsimp only [nil0] at a0 a1 a2 a3
  obtain ⟨f0, f1, f2, f3⟩ := H3.out.free
  refine seq_store (w' := (((w2'.setCell ⟨w.heap.size + 1 + 1, 0, none⟩ (.int .i64 (mrg x y).c)).setCell ⟨w.heap.size + 1 + 1, 1, none⟩ (.int .i64 (mrg x y).s)).setCell ⟨w.heap.size + 1 + 1, 2, none⟩ (.int .i64 (mrg x y).mn)).setCell ⟨w.heap.size + 1 + 1, 3, none⟩ (.int .i64 (mrg x y).mx)) (a' := ?_) (by rfl) (by go_simp) (HSS.out _ (set_only (Only.of_keep _ hKc) rfl)) ?_ ?_
  rotate_left
  · (simp only [Act.put]; with_reducible rfl)
  refine seq_nil ?_
  go_wp2
  have hO : Only (fun k => k = w.heap.size + 1 + 1) w2' ((((w2'.setCell ⟨w.heap.size + 1 + 1, 0, none⟩ (.int .i64 (mrg x y).c)).setCell ⟨w.heap.size + 1 + 1, 1, none⟩ (.int .i64 (mrg x y).s)).setCell ⟨w.heap.size + 1 + 1, 2, none⟩ (.int .i64 (mrg x y).mn)).setCell ⟨w.heap.size + 1 + 1, 3, none⟩ (.int .i64 (mrg x y).mx)) := set_only (Only.refl _ w2') rfl
  have hF := set_at H3.out (mrg x y).c (mrg x y).s (mrg x y).mn (mrg x y).mx
  have hkF := Only.keep HK1.out hO (fun k hk => by omega)
  generalize (((w2'.setCell ⟨w.heap.size + 1 + 1, 0, none⟩ (.int .i64 (mrg x y).c)).setCell ⟨w.heap.size + 1 + 1, 1, none⟩ (.int .i64 (mrg x y).s)).setCell ⟨w.heap.size + 1 + 1, 2, none⟩ (.int .i64 (mrg x y).mn)).setCell ⟨w.heap.size + 1 + 1, 3, none⟩ (.int .i64 (mrg x y).mx) = WF at *
  obtain ⟨g0, g1, g2, g3⟩ := hF.cells
  dsimp only at g0 g1 g2 g3
  exact bodyPost_ret (v := .agg #[.int .i64 (mrg x y).c, .int .i64 (mrg x y).s, .int .i64 (mrg x y).mn, .int .i64 (mrg x y).mx]) (by simp [results, Try.results35, go_sem, g0, g1, g2, g3]) rfl ⟨rfl, hkF⟩

theorem fold_one {b lim : Nat} {A : Option Addr} {c : Nat} {xs : List Nd} {p q : Int} {h : Nat} {lo i : Int} {t : Sh} {kvs : List (Int × Int)} {w : World} (hF : FoldAt xs h lo i t kvs) (hA : Ar w b lim A c xs)
    (hrec : ∀ (j : Nat) (l r : Sh) (z : Nd), t = .node j l r → xs[j]? = some z → z.c ≠ 0 → kvs ≠ [] → decide (q < p ∨ lo + 2 ^ h - 1 < p ∨ q < lo) = false → decide (p ≤ lo ∧ lo + 2 ^ h - 1 ≤ q) = false →
      Calls Try.prog 35 #[.pointer (some ⟨b, 0, none⟩), .int .i32 i, .agg #[.int .u32 lo, .int .u32 (lo + 2 ^ h - 1)], .agg #[.int .u32 p, .int .u32 q]] w fun e w' => e = .returned (.agg #[.int .i64 (ofL (vs (kvs.filter (inS p q)))).c, .int .i64 (ofL (vs (kvs.filter (inS p q)))).s, .int .i64 (ofL (vs (kvs.filter (inS p q)))).mn, .int .i64 (ofL (vs (kvs.filter (inS p q)))).mx]) ∧ Keep w w') :
    Calls Try.prog 35 #[.pointer (some ⟨b, 0, none⟩), .int .i32 i, .agg #[.int .u32 lo, .int .u32 (lo + 2 ^ h - 1)], .agg #[.int .u32 p, .int .u32 q]] w fun e w' => e = .returned (.agg #[.int .i64 (ofL (vs (kvs.filter (inS p q)))).c, .int .i64 (ofL (vs (kvs.filter (inS p q)))).s, .int .i64 (ofL (vs (kvs.filter (inS p q)))).mn, .int .i64 (ofL (vs (kvs.filter (inS p q)))).mx]) ∧ Keep w w' := by
  have hv := hF.val
  rcases t with _ | ⟨j, l, r⟩
  · have hk : kvs = [] := by cases h <;> exact hv
    subst hk
    exact fold_none (z := Nd.zero) rfl (fun W hW => node_no i (hA.keep hW) hF.i0 hF.num)
  · obtain ⟨z, hz, hn⟩ := hv.node
    have hi : i = (j : Int) + 1 := hF.num
    have hN : ∀ W, Keep w W → Calls Try.prog 55 #[.pointer (some ⟨b, 0, none⟩), .int .i32 i] W fun e w' => e = .returned (.agg #[.int .i32 z.l, .int .i32 z.r, .int .i64 z.c, .int .i64 z.s, .int .i64 z.mn, .int .i64 z.mx, .bool z.k]) ∧ Keep W w' := fun W hW => by rw [hi]; exact node_yes j z (hA.keep hW) hz
    have hc := cnt0 hv hz hF.few
    by_cases hk : kvs = []
    · subst hk
      have hc0 : z.c = 0 := congrArg Ag.c hn
      exact fold_none hc0 hN
    · have hc0 : z.c ≠ 0 := fun e => hk (hc.1 (by omega))
      by_cases ha : q < p ∨ lo + 2 ^ h - 1 < p ∨ q < lo
      · rw [inS_none hv p q ha]
        exact fold_apart hc0 (decide_eq_true ha) hN
      · by_cases hw : p ≤ lo ∧ lo + 2 ^ h - 1 ≤ q
        · rw [inS_all hv p q hw.1 hw.2, ← hn]
          exact fold_within hc0 (decide_eq_false ha) (decide_eq_true hw) hN
        · exact hrec j l r z rfl hz hc0 hk (decide_eq_false ha) (decide_eq_false hw)
theorem i32_idx {xs : List Nd} {t : Sh} (hs : Shp xs t) (hl : xs.length ≤ 4194304) : -2147483648 ≤ t.idx ∧ t.idx ≤ 2147483647 := by
  cases t with
  | nil => simp [Sh.idx]
  | node j l r =>
    have := hs.lt j (by simp [Sh.ins])
    simp only [Sh.idx]
    omega
theorem fold_any {b lim : Nat} {A : Option Addr} {c : Nat} {xs : List Nd} (p q : Int) : ∀ (h : Nat) (lo i : Int) (t : Sh) (kvs : List (Int × Int)) (w : World), FoldAt xs h lo i t kvs → Ar w b lim A c xs →
    Calls Try.prog 35 #[.pointer (some ⟨b, 0, none⟩), .int .i32 i, .agg #[.int .u32 lo, .int .u32 (lo + 2 ^ h - 1)], .agg #[.int .u32 p, .int .u32 q]] w fun e w' => e = .returned (.agg #[.int .i64 (ofL (vs (kvs.filter (inS p q)))).c, .int .i64 (ofL (vs (kvs.filter (inS p q)))).s, .int .i64 (ofL (vs (kvs.filter (inS p q)))).mn, .int .i64 (ofL (vs (kvs.filter (inS p q)))).mx]) ∧ Keep w w' := by
  intro h
  induction h with
  | zero =>
    intro lo i t kvs w hF hA
    refine fold_one hF hA (fun j l r z _ _ _ _ ha hw => ?_)
    exfalso
    have h1 := of_decide_eq_false ha
    have h2 := of_decide_eq_false hw
    simp at h1 h2
    omega
  | succ h ih =>
    intro lo i t kvs w hF hA
    refine fold_one hF hA (fun j l r z ht hz hc hk ha hw => ?_)
    subst ht
    obtain ⟨z', hz', hn, hcase⟩ := hF.val
    obtain rfl : z' = z := Option.some.inj (hz'.symm.trans hz)
    rcases hcase with ⟨_, e⟩ | ⟨_, k1, k2, rfl, v1, v2⟩
    · exact absurd e hk
    · obtain ⟨⟨z2, hz2, hl2, hr2⟩, sl, sr⟩ := hF.shp
      obtain rfl : z2 = z' := Option.some.inj (hz2.symm.trans hz)
      have e2 : (2 : Int) ^ (h + 1) = 2 ^ h + 2 ^ h := by rw [Int.pow_succ]; omega
      have hp : (0 : Int) < 2 ^ h := Int.pow_pos (by decide)
      have hf := hF.few
      rw [List.length_append] at hf
      have hlo := hF.lo0
      have hhi := hF.hi0
      have hft := hF.fit
      have hlen : xs.length ≤ 4194304 := by have := hA.fits; have := hA.top; omega
      rw [← both_halves v1 v2 hF.few]
      rw [e2] at hhi ha hw ⊢
      refine fold_both (mid := lo + 2 ^ h - 1) hc ha hw hlo (by omega) hhi (by omega) ?_ ?_ ?_
      · intro W hW
        have hi : i = (j : Int) + 1 := hF.num
        rw [hi]
        exact node_yes j z2 (hA.keep hW) hz
      · intro W hW
        rw [hl2]
        exact ih lo l.idx l k1 W ⟨hlo, by omega, sl, hft.1, Num.idx xs l, i32_idx sl hlen, v1, by omega⟩ (hA.keep hW)
      · intro W hW
        rw [hr2]
        have := ih (lo + 2 ^ h) r.idx r k2 W ⟨by omega, by omega, sr, hft.2, Num.idx xs r, i32_idx sr hlen, v2, by omega⟩ (hA.keep hW)
        rwa [show lo + 2 ^ h + 2 ^ h - 1 = lo + (2 ^ h + 2 ^ h) - 1 by omega, show lo + 2 ^ h = lo + 2 ^ h - 1 + 1 by omega] at this
end Go.Proofs.Ytopengbflnoneaa
