/- segtree.way: the nodes that a key's beginnings have; how many there are. -/
import Derived.Test.YtopengbflnoneaaSegLeast
import Derived.Test.YtopengbflnoneaaRng
import Derived.Shelf.Abstract
import Derived.Shelf.RegionOpen
import Derived.OwnWalkIn
import Derived.TacticsInMore
import Derived.LoopNIn
import Derived.LoopIn
import Derived.BigRegionIn
import Derived.Stop.RegionWithIn
namespace Go.Proofs.Ytopengbflnoneaa
open Go.RowKit Go.Shelf
attribute [local go_sem] Oper.semAt_some

/-- everyKey makes one block. -/
theorem every_at (w : World) : Calls Try.prog 33 #[] w fun e w' => e = .returned (.agg #[.int .u32 0, .int .u32 4294967295]) ∧ w' = w.alloc (.cells #[.int .u32 0, .int .u32 4294967295] 36) := by
  go_enter Try.func33, Try.ntmps33
  go_wp2
  exact bodyPost_ret (v := .agg #[.int .u32 0, .int .u32 4294967295]) (by simp [results, Try.results33, go_sem]) rfl ⟨rfl, rfl⟩
/-- What a round may turn: what T0 lets it, and what is made between n₀ and B. -/
def TW (n₀ : Nat) (T0 : Nat → Prop) (B _c k : Nat) : Prop := T0 k ∨ (n₀ ≤ k ∧ k < B)
/-- A span's width, as it lies at p. -/
def width (w : World) (p : Nat) : Nat := (intOf ((w.cell? ⟨p, 1, none⟩).getD undef) - intOf ((w.cell? ⟨p, 0, none⟩).getD undef)).toNat
theorem SpB.width {w : World} {p : Nat} {x y : Int} (h : SpB w p x y) : width w p = (y - x).toNat := by
  obtain ⟨h0, h1⟩ := h.cells
  simp [Go.Proofs.Ytopengbflnoneaa.width, h0, h1, intOf]
theorem SpB.stored {w : World} {b : Nat} {x y : Int} (h : SpB w b x y) (x' y' : Int) : SpB ((w.setCell ⟨b, 0, none⟩ (.int .u32 x')).setCell ⟨b, 1, none⟩ (.int .u32 y')) b x' y' := by
  have hb := h.lt
  unfold SpB at *
  simp only [World.setCell, Array.getElem?_modify, h, if_true, Option.map_some]
  rfl
theorem SpB.free {w : World} {b : Nat} {x y : Int} (h : SpB w b x y) : w.frozen? ⟨b, 0, none⟩ = false ∧ w.frozen? ⟨b, 1, none⟩ = false := by
  unfold SpB at h
  simp [World.frozen?, h]

/-- On the way: the iterator has come to t, h bits from the end. -/
structure OnWay (w0 : World) (b lim : Nat) (xs : List Nd) (Pr : Nat → Prop) (Bt Bk p : Nat) (key : Int) (L0 : Nat) (h : Nat) (lo : Int) (t : Sh) (i : Int) (W : World) : Prop where
  my : My w0 b lim xs Pr W
  shp : Shp xs t
  fit : Sh.fit h t
  num : Num xs t i
  i32 : -2147483648 ≤ i ∧ i ≤ 2147483647
  lo0 : 0 ≤ lo
  hi0 : lo + 2 ^ h - 1 ≤ 4294967295
  k0 : lo ≤ key
  k1 : key < lo + 2 ^ h
  lk : lack h lo key t = L0
  keys : SpB W p lo (lo + 2 ^ h - 1)
  ct : W.cell? ⟨Bt, 0, none⟩ = some (.pointer (some ⟨b, 0, none⟩))
  ck : W.cell? ⟨Bk, 0, none⟩ = some (.int .u32 key)
theorem cell_lt {w : World} {p : Addr} {v : Value} (h : w.cell? p = some v) : p.block < w.heap.size := by
  rcases Nat.lt_or_ge p.block w.heap.size with hlt | hge
  · exact hlt
  · have : w.heap[p.block]? = none := Array.getElem?_eq_none hge
    unfold World.cell? at h
    rw [this] at h
    cases h
set_option maxRecDepth 100000 in
set_option maxHeartbeats 2000000 in
theorem way1_in (n : Nat) (hn : 1 ≤ n) (l : Nat) (J Jx : Nat → List Nd → World → Prop) {w0 W : World} {b lim : Nat} {xs : List Nd} {Pr T0 : Nat → Prop} {n₀ Bt Bk : Nat} {key : Int} {t : Sh} {L0 : Nat}
    (hJ : ∀ c s X Y, J c s X → Only (fun k => W.heap.size ≤ k ∧ k < W.heap.size + c) X Y → J c s Y)
    (hY : ∀ c pre x W1, J c pre W1 → W.heap.size + c ≤ W1.heap.size → pre.length < 33 → YieldAt Fence.wide (n - 1) Try.prog l #[.agg #[.int .i32 x.l, .int .i32 x.r, .int .i64 x.c, .int .i64 x.s, .int .i64 x.mn, .int .i64 x.mx, .bool x.k]] W1 fun e W' =>
      (e = .returned (.bool true) ∧ J c (pre ++ [x]) W' ∧ Only (TW n₀ T0 W.heap.size c) W1 W') ∨ (e = .returned (.bool false) ∧ Jx c (pre ++ [x]) W'))
    (hM : My w0 b lim xs Pr W) (hP : ∀ k, T0 k ∨ (n₀ ≤ k ∧ k < W.heap.size) → Pr k ∧ w0.heap.size ≤ k) (hT0 : ∀ k, T0 k → k < W.heap.size)
    (ht : Shp xs t) (hf : Sh.fit 32 t) (hnum : Num xs t 1) (k0 : 0 ≤ key) (k1 : key ≤ 4294967295) (hL : lack 32 0 key t = L0)
    (ct : W.cell? ⟨Bt, 0, none⟩ = some (.pointer (some ⟨b, 0, none⟩))) (ck : W.cell? ⟨Bk, 0, none⟩ = some (.int .u32 key)) (hBt : ¬ (T0 Bt ∨ (n₀ ≤ Bt ∧ Bt < W.heap.size))) (hBk : ¬ (T0 Bk ∨ (n₀ ≤ Bk ∧ Bk < W.heap.size))) (hBt2 : Bt < W.heap.size) (hBk2 : Bk < W.heap.size)
    (h0 : ∀ c, J c [] W) :
    CallsIn Fence.wide n Try.prog 67 #[.func (.yield l) #[] #[], .pointer (some ⟨Bt, 0, none⟩), .pointer (some ⟨Bk, 0, none⟩)] W fun e W' => (∃ v, e = .returned v) ∧
      ((∃ c ys, ys.length + L0 = 33 ∧ J c ys W') ∨ (∃ c pre, True ∧ Jx c pre W')) := by
  refine callsIn_of_wp Try.func67 rfl trivial ?_ rfl
  simp only [Try.ntmps67, List.size_toArray, List.length_cons, List.length_nil, Nat.reduceAdd, Nat.reduceSub, Array.replicate_succ, Array.replicate_zero, List.push_toArray, List.append_toArray, List.nil_append, List.cons_append]
  gi_wp2_with (refine ⟨trivial, ?_⟩; gi_at_call 33; refine (callsIn_wide.2 (every_at _)).mono ?_; rintro e w1 ⟨rfl, rfl⟩)
  have HKW := Lib.hid (((Keep.refl W).alloc (.cells #[.int .u32 0, .int .u32 4294967295] 36)).alloc (.cells #[.int .u32 0, .int .u32 4294967295] 36))
  have hkb := SpB.new (W.alloc (.cells #[.int .u32 0, .int .u32 4294967295] 36)) 0 4294967295
  simp only [World.size_alloc] at hkb
  have hsz : ((W.alloc (.cells #[.int .u32 0, .int .u32 4294967295] 36)).alloc (.cells #[.int .u32 0, .int .u32 4294967295] 36)).heap.size = W.heap.size + 2 := by simp
  generalize (W.alloc (.cells #[.int .u32 0, .int .u32 4294967295] 36)).alloc (.cells #[.int .u32 0, .int .u32 4294967295] 36) = W2 at *
  have hJ2 : J 2 [] W2 := hJ 2 [] W W2 (h0 2) (Only.of_keep _ HKW.out)
  have hstart : OnWay w0 b lim xs (fun k => Pr k ∨ (W.heap.size ≤ k ∧ k < W.heap.size + 2)) Bt Bk (W.heap.size + 1) key L0 32 0 t 1 W2 :=
    ⟨(hM.keep HKW.out).mono (fun k h => by rcases h with h | h; exact .inl h; exact .inr ⟨h.1, by omega⟩), ht, hf, hnum, by decide, by decide, by decide, k0, by simp; omega, hL, hkb, (HKW.out.cell (p := ⟨Bt, 0, none⟩) hBt2).trans ct, (HKW.out.cell (p := ⟨Bk, 0, none⟩) hBk2).trans ck⟩
  have HJ2 := Lib.hid hJ2
  have HST := Lib.hid hstart
  have HSZ := Lib.hid hsz
  have HJ := Lib.hid hJ
  have HY := Lib.hid hY
  have HT0 := Lib.hid hT0
  have HW0 := Lib.hid hM.keepW.size
  have HBK := Lib.hid (show ¬ Bk = W.heap.size + 1 ∧ ¬ Bt = W.heap.size + 1 from ⟨by omega, by omega⟩)

  -- what a round's word, and what is the iterator's own, leaves
  have HMV := Lib.hid (show ∀ (h : Nat) (lo : Int) (t' : Sh) (iv : Int) (X Y : World), OnWay w0 b lim xs (fun k => Pr k ∨ (W.heap.size ≤ k ∧ k < W.heap.size + 2)) Bt Bk (W.heap.size + 1) key L0 h lo t' iv X → Only (TW n₀ T0 W.heap.size 2) X Y → OnWay w0 b lim xs (fun k => Pr k ∨ (W.heap.size ≤ k ∧ k < W.heap.size + 2)) Bt Bk (W.heap.size + 1) key L0 h lo t' iv Y from fun h lo t' iv X Y ho hO => by
    obtain ⟨q1, q2, q3, q4, q5, q6, q7, q8, q9, q10, q11, q12, q13⟩ := ho
    refine ⟨q1.only hO (fun k hk => ⟨.inl (hP k hk).1, (hP k hk).2⟩), q2, q3, q4, q5, q6, q7, q8, q9, q10, q11.only hO (fun hk => ?_), ?_, ?_⟩
    · rcases hk with hk | hk
      · have := hT0 _ hk; omega
      · omega
    · exact (World.cell?_of_block (a := ⟨Bt, 0, none⟩) (hO.block Bt (cell_lt q12) hBt)).trans q12
    · exact (World.cell?_of_block (a := ⟨Bk, 0, none⟩) (hO.block Bk (cell_lt q13) hBk)).trans q13)
  clear hM hP hT0 ht hf hnum hL ct ck hBt hBk hBt2 hBk2 h0 hJ2 hstart hJ hY hkb hsz HKW
  gi_loopw [4] (fun i wr => ∃ (h : Nat) (lo : Int) (t' : Sh) (iv : Int) (pre : List Nd), i = .int .i32 iv ∧ pre.length + h = 32 ∧ Hid (OnWay w0 b lim xs (fun k => Pr k ∨ (W.heap.size ≤ k ∧ k < W.heap.size + 2)) Bt Bk (W.heap.size + 1) key L0 h lo t' iv wr) ∧ Hid (J 2 pre wr)) (fun _ wr => width wr (W.heap.size + 1))
  case atStart =>
    exact ⟨32, 0, t, 1, [], rfl, rfl, HST, HJ2⟩
  case round =>
    obtain ⟨h, lo, t', iv, pre, rfl, hlen, HOW, HJp⟩ := hrel
    clear HST HJ2
    have hct := HOW.out.ct
    cases t' with
    | nil =>
      gi_wp2_with fail
      refine ⟨trivial, (callsIn_wide.2 (my_getno iv HOW.out.my HOW.out.i32 HOW.out.num)).mono ?_⟩
      rintro e w1 ⟨rfl, hk1⟩
      have HK1 := Lib.hid (hk1.alloc (.cells #[.int .i32 0, .int .i32 0, .int .i64 0, .int .i64 0, .int .i64 0, .int .i64 0, .bool false] 96))
      clear hk1
      gi_wp2_with (refine wpListIn_skip (by rfl) (by rfl) ?_)
      refine ⟨trivial, ?_⟩
      gi_wp2
      refine bodyPost_ret (results_none rfl _ _ _) rfl ?_
      refine ⟨⟨_, rfl⟩, .inl ⟨2, pre, ?_, HJ.out _ _ _ _ HJp.out (Only.of_keep _ HK1.out)⟩⟩
      have := HOW.out.lk
      rw [lack_nil] at this
      omega
    | node j a c =>
      obtain ⟨⟨z, hz, ezl, ezr⟩, s1, s2⟩ := HOW.out.shp
      have HZL := Lib.hid ezl
      have HZR := Lib.hid ezr
      have HS1 := Lib.hid s1
      have HS2 := Lib.hid s2
      clear ezl ezr s1 s2
      have hiv : iv = (j : Int) + 1 := HOW.out.num
      subst hiv
      gi_wp2_with fail
      refine ⟨trivial, (callsIn_wide.2 (my_get j z HOW.out.my hz)).mono ?_⟩
      rintro e w1 ⟨rfl, hk1⟩
      have HNB := Lib.hid (NdAt.new w1 z)
      have HK1 := Lib.hid (hk1.alloc (.cells #[.int .i32 z.l, .int .i32 z.r, .int .i64 z.c, .int .i64 z.s, .int .i64 z.mn, .int .i64 z.mx, .bool z.k] 96))
      have HL1 := Lib.hid (show W.heap.size + 1 < w1.heap.size from (HOW.out.keys.keep hk1).lt)
      obtain ⟨fn, tmps, assign, body, hy, hR⟩ := HY.out 2 pre z (w1.alloc (.cells #[.int .i32 z.l, .int .i32 z.r, .int .i64 z.c, .int .i64 z.s, .int .i64 z.mn, .int .i64 z.mx, .bool z.k] 96)) (HJ.out _ _ _ _ HJp.out (Only.of_keep _ HK1.out)) (by have := HL1.out; simp; omega) (by omega)
      have HR := Lib.hid hR
      clear hk1 hR
      gi_wp2_with fail
      refine HR.out.mono ?_
      rintro e W3 (⟨rfl, hJ3, ho3⟩ | ⟨rfl, hJx3⟩)
      · have HOW3 := Lib.hid (HMV.out _ _ _ _ _ _ HOW.out ((Only.of_keep _ HK1.out).trans ho3 (fun _ _ h => h)))
        have HNB3 := Lib.hid (HNB.out.only ho3 (fun hk => by
          rcases hk with hk | hk
          · have := HT0.out _ hk; have := HL1.out; omega
          · have := HL1.out; omega))
        have HJ3 := Lib.hid hJ3
        have HLK := Lib.hid HOW.out.lk
        have HWD := Lib.hid HOW.out.keys.width
        have HFT := Lib.hid HOW.out.fit
        have HB := Lib.hid (And.intro HOW.out.lo0 (And.intro HOW.out.hi0 (And.intro HOW.out.k0 HOW.out.k1)))
        obtain ⟨p0, p1⟩ := HOW3.out.keys.cells
        clear ho3 hJ3 HR hy HNB HK1 HOW HJp hct
        cases h with
        | zero =>
          gi_wp2_with fail
          refine ⟨trivial, (callsIn_wide.2 (single_is _ _ true _ (by simp))).mono ?_⟩
          rintro e w4 ⟨rfl, hk4⟩
          clear p0 p1
          gi_wp2
          refine bodyPost_ret (results_none rfl _ _ _) rfl ?_
          refine ⟨⟨_, rfl⟩, .inl ⟨2, pre ++ [z], ?_, HJ.out _ _ _ _ HJ3.out (Only.of_keep _ hk4)⟩⟩
          have := HLK.out
          simp [lack] at this ⊢
          omega
        | succ h =>
          have e2 := two_pow h
          have epos := pow_pos2 h
          obtain ⟨b0, b1, b2, b3⟩ := HB.out
          have hsi : ∀ X, Calls Try.prog 49 #[.agg #[.int .u32 lo, .int .u32 (lo + 2 ^ (h + 1) - 1)]] X fun e w' => e = .returned (.bool false) ∧ Keep X w' := fun X => single_is lo _ false X (by rw [beq_eq_false_iff_ne]; omega)
          have hha := fun X => halves_is lo (lo + 2 ^ (h + 1) - 1) (lo + 2 ^ h - 1) X b0 (by omega) b1 (mid_of lo h)
          have em : lo + 2 ^ h - 1 + 1 = lo + 2 ^ h := by omega
          have eh : lo + 2 ^ h + 2 ^ h - 1 = lo + 2 ^ (h + 1) - 1 := by omega
          rw [em] at hha
          have HEM := Lib.hid em
          have HEH := Lib.hid eh
          have HE2 := Lib.hid e2
          have HEP := Lib.hid epos
          have HSI := Lib.hid hsi
          have HHA := Lib.hid hha
          have HKEY := Lib.hid HOW3.out.keys
          clear e2 epos b0 b1 b2 b3 hsi hha em eh
          generalize hhi : lo + 2 ^ (h + 1) - 1 = hi at *
          generalize hmd : lo + 2 ^ h - 1 = md at *
          generalize hm2 : lo + 2 ^ h = m2 at *
          have HHI := Lib.hid hhi
          have HMD := Lib.hid hmd
          have HM2 := Lib.hid hm2
          clear hhi hmd hm2
          gi_wp2_with fail
          refine ⟨trivial, (callsIn_wide.2 (HSI.out _)).mono ?_⟩
          rintro e w4 ⟨rfl, hk4⟩
          clear p0 p1
          obtain ⟨p0, p1⟩ := (HKEY.out.keep hk4).cells
          gi_wp2_with fail
          refine ⟨trivial, (callsIn_wide.2 (HHA.out _)).mono ?_⟩
          rintro e w5 ⟨rfl, hk5⟩
          have HK5 := Lib.hid (hk4.trans hk5)
          clear hk4 hk5 p0 p1
          have HOW5 := Lib.hid (HMV.out _ _ _ _ _ _ HOW3.out (Only.of_keep _ HK5.out))
          have HNB5 := Lib.hid (HNB3.out.keep HK5.out)
          have HKEY5 := Lib.hid (HKEY.out.keep HK5.out)
          obtain ⟨p0, p1⟩ := HKEY5.out.cells
          obtain ⟨g0, g1⟩ := HKEY5.out.free
          obtain ⟨n0, n1, n2, n3, n4, n5, n6⟩ := HNB5.out.cells
          have hck := HOW5.out.ck
          have l1 := HOW5.out.keys.lt
          have l2 := HNB5.out.lt
          have l3 := cell_lt hck
          dsimp only at l3
          have hne : ¬ W.heap.size + 1 = w1.heap.size := Nat.ne_of_lt HL1.out
          gi_wp2_with fail
          clear p0 p1 g0 g1 n0 n1 n2 n3 n4 n5 n6 hck l1 l2 l3
          have HKV := Lib.hid (((Keep.refl w5).alloc (.cells #[.int .u32 lo, .int .u32 md] 36)).alloc (.cells #[.int .u32 m2, .int .u32 hi] 36))
          have hs1 := (SpB.new w5 lo md).keep ((Keep.refl _).alloc (.cells #[.int .u32 m2, .int .u32 hi] 36))
          have hs2 := SpB.new (w5.alloc (.cells #[.int .u32 lo, .int .u32 md] 36)) m2 hi
          simp only [World.size_alloc] at hs2
          have HLB := Lib.hid hs1
          have HRB := Lib.hid hs2
          have HW5 := Lib.hid (show W.heap.size + 1 < w5.heap.size from HKEY5.out.lt)
          clear hs1 hs2
          generalize (w5.alloc (.cells #[.int .u32 lo, .int .u32 md] 36)).alloc (.cells #[.int .u32 m2, .int .u32 hi] 36) = V5 at *
          have HOW6 := Lib.hid (HMV.out _ _ _ _ _ _ HOW5.out (Only.of_keep _ HKV.out))
          have HNB6 := Lib.hid (HNB5.out.keep HKV.out)
          have HKEY6 := Lib.hid (HKEY5.out.keep HKV.out)
          have HK6 := Lib.hid (HK5.out.trans HKV.out)
          clear HOW3 HOW5 HNB3 HNB5 HKEY HKEY5 HK5
          obtain ⟨p0, p1⟩ := HKEY6.out.cells
          obtain ⟨g0, g1⟩ := HKEY6.out.free
          obtain ⟨n0, n1, n2, n3, n4, n5, n6⟩ := HNB6.out.cells
          obtain ⟨x0, x1⟩ := HLB.out.cells
          obtain ⟨y0, y1⟩ := HRB.out.cells
          have hck := HOW6.out.ck
          have hk1' := HBK.out.1
          have hk2' := HBK.out.2
          gi_region
          clear p0 p1 g0 g1 n0 n1 n2 n3 n4 n5 n6 x0 x1 y0 y1 hck
          have hO1 : Only (fun k => k = W.heap.size + 1) V5 ((V5.setCell ⟨W.heap.size + 1, 0, none⟩ (.int .u32 lo)).setCell ⟨W.heap.size + 1, 1, none⟩ (.int .u32 md)).drew := (((Only.refl (fun k => k = W.heap.size + 1) V5).setCell _ _ rfl).setCell _ _ rfl).drew
          have hKX : SpB ((V5.setCell ⟨W.heap.size + 1, 0, none⟩ (.int .u32 lo)).setCell ⟨W.heap.size + 1, 1, none⟩ (.int .u32 md)).drew (W.heap.size + 1) lo md := (HKEY6.out.stored lo md).keep (Keep.refl _).drew
          have HO1 := Lib.hid hO1
          have HKX := Lib.hid hKX
          have HNBX := Lib.hid (HNB6.out.only hO1 (fun e => hne e.symm))
          have HRBX := Lib.hid (HRB.out.only hO1 (fun e => by have := HW5.out; omega))
          clear hO1 hKX
          generalize ((V5.setCell ⟨W.heap.size + 1, 0, none⟩ (.int .u32 lo)).setCell ⟨W.heap.size + 1, 1, none⟩ (.int .u32 md)).drew = X1 at *
          have hck := (World.cell?_of_block (a := ⟨Bk, 0, none⟩) (HO1.out.block Bk (cell_lt HOW6.out.ck) hk1')).trans HOW6.out.ck
          obtain ⟨y0, y1⟩ := HRBX.out.cells
          -- what both ways end at
          have HEND := Lib.hid (show ∀ (x : Int) (X : World) (d : Sh) (i' lo' : Int), Only (fun k => k = W.heap.size + 1) V5 X → SpB X (W.heap.size + 1) lo' (lo' + 2 ^ h - 1) → (d = a ∨ d = c) → i' = d.idx → 0 ≤ lo' → lo' + 2 ^ h - 1 ≤ 4294967295 → lo' ≤ key → key < lo' + 2 ^ h → lack h lo' key d = L0 →
              OnWay w0 b lim xs (fun k => Pr k ∨ (W.heap.size ≤ k ∧ k < W.heap.size + 2)) Bt Bk (W.heap.size + 1) key L0 h lo' d i' X ∧ J 2 (pre ++ [z]) X from fun _ X d i' lo' ho hs hd hi' a0 a1 a2 a3 a4 => by
            have hshp : Shp xs d := by rcases hd with rfl | rfl; exact HS1.out; exact HS2.out
            have hfit : Sh.fit h d := by rcases hd with rfl | rfl; exact HFT.out.1; exact HFT.out.2
            subst hi'
            refine ⟨⟨HOW6.out.my.only ho (fun k hk => by subst hk; exact ⟨.inr ⟨by omega, by omega⟩, by have := HW0.out; omega⟩), hshp, hfit, Num.idx xs d, i32_idx hshp HOW6.out.my.top, a0, a1, a2, a3, a4, hs, ?_, ?_⟩, ?_⟩
            · exact (World.cell?_of_block (a := ⟨Bt, 0, none⟩) (ho.block Bt (cell_lt HOW6.out.ct) hk2')).trans HOW6.out.ct
            · exact (World.cell?_of_block (a := ⟨Bk, 0, none⟩) (ho.block Bk (cell_lt HOW6.out.ck) hk1')).trans HOW6.out.ck
            · exact HJ.out _ _ _ _ (HJ.out _ _ _ _ HJ3.out (Only.of_keep _ HK6.out)) (ho.mono (fun k _ e => by subst e; omega)))
          have hlk := HLK.out
          obtain ⟨b0, b1, b2, b3⟩ := HB.out
          have q1 := HE2.out
          have q2 := HEP.out
          have q3 := HMD.out
          have q4 := HM2.out
          have q5 := HHI.out
          by_cases hc : key < m2
          · have hcd : decide (m2 ≤ key) = false := decide_eq_false (by omega)
            have hend := HEND.out 0 X1 a z.l lo HO1.out (by rw [show lo + 2 ^ h - 1 = md by omega]; exact HKX.out) (.inl rfl) HZL.out b0 (by omega) b2 (by omega) (by rw [lack_left (by omega)] at hlk; exact hlk)
            have HF := Lib.hid hend
            clear hend hlk b0 b1 b2 b3 q1 q2 q3 q4 q5 hc HEND
            have hwd : width X1 (W.heap.size + 1) < width wr (W.heap.size + 1) := by
              rw [HKX.out.width, HWD.out]
              have := HE2.out; have := HEP.out; have := HMD.out; have := HM2.out; have := HHI.out; have := HB.out.1
              omega
            have HWW := Lib.hid hwd
            clear hwd
            gi_wp2_with fail
            go_roundw
            case rel => exact ⟨h, lo, a, z.l, pre ++ [z], rfl, by simp; omega, Lib.hid HF.out.1, Lib.hid HF.out.2⟩
            case measure => exact HWW.out
          · have hcd : decide (m2 ≤ key) = true := decide_eq_true (by omega)
            obtain ⟨p0, p1⟩ := HKX.out.cells
            obtain ⟨g0, g1⟩ := HKX.out.free
            obtain ⟨n0, n1, n2, n3, n4, n5, n6⟩ := HNBX.out.cells
            have hOX : Only (fun k => k = W.heap.size + 1) V5 ((X1.setCell ⟨W.heap.size + 1, 0, none⟩ (.int .u32 m2)).setCell ⟨W.heap.size + 1, 1, none⟩ (.int .u32 hi)).drew := ((HO1.out.setCell _ _ rfl).setCell _ _ rfl).drew
            have hKX : SpB ((X1.setCell ⟨W.heap.size + 1, 0, none⟩ (.int .u32 m2)).setCell ⟨W.heap.size + 1, 1, none⟩ (.int .u32 hi)).drew (W.heap.size + 1) m2 hi := (HKX.out.stored m2 hi).keep (Keep.refl _).drew
            have hwd : width ((X1.setCell ⟨W.heap.size + 1, 0, none⟩ (.int .u32 m2)).setCell ⟨W.heap.size + 1, 1, none⟩ (.int .u32 hi)).drew (W.heap.size + 1) < width wr (W.heap.size + 1) := by
              rw [hKX.width, HWD.out]
              omega
            have hend := HEND.out 0 _ c z.r m2 hOX (by rw [show m2 + 2 ^ h - 1 = hi by omega]; exact hKX) (.inr rfl) HZR.out (by omega) (by omega) (by omega) (by omega) (by rw [lack_right (by omega), q4] at hlk; exact hlk)
            have HF := Lib.hid hend
            have HWW := Lib.hid hwd
            clear hlk b0 b1 b2 b3 q1 q2 q3 q4 q5 hc hend hwd hOX hKX HEND
            gi_wp2_with fail
            gi_region
            generalize ((X1.setCell ⟨W.heap.size + 1, 0, none⟩ (.int .u32 m2)).setCell ⟨W.heap.size + 1, 1, none⟩ (.int .u32 hi)).drew = X2 at *
            gi_wp2_with fail
            go_roundw
            case rel => exact ⟨h, m2, c, z.r, pre ++ [z], rfl, by simp; omega, Lib.hid HF.out.1, Lib.hid HF.out.2⟩
            case measure => exact HWW.out
      · clear HOW HNB HK1 hy HR
        gi_wp2_with (refine wpListIn_skip (by rfl) (by rfl) ?_)
        refine ⟨trivial, ?_⟩
        gi_wp2
        refine bodyPost_ret (results_none rfl _ _ _) rfl ?_
        exact ⟨⟨_, rfl⟩, .inr ⟨2, _, trivial, hJx3⟩⟩
end Go.Proofs.Ytopengbflnoneaa
