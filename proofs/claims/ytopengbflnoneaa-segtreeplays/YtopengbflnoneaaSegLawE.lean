/- SegtreePlays: a walk. -/

import Derived.Test.YtopengbflnoneaaSegAlive
import Derived.Test.YtopengbflnoneaaSegPS
import Derived.Test.YtopengbflnoneaaSegKeysM
import Derived.Test.YtopengbflnoneaaAggEqM
namespace Go.Proofs.Ytopengbflnoneaa
open Go.RowKit

theorem one_cnt {kvs : List (Int × Int)} (hr : Rises kvs) (k : Int) : (ofL (vs (kvs.filter (inS k k)))).c = if hasK kvs k = true then 1 else 0 := by
  cases h : hasK kvs k
  · rw [none_at h]; rfl
  · obtain ⟨v, hv⟩ := hasK_iff.1 h
    rw [one_in hr hv]
    show (ofL [v]).c = 1
    rw [ofL_one]; rfl
theorem and_7 (m : Int) : ∃ r : Nat, bits BinOp.and IntKind.i64 m 7 = (r : Int) ∧ r ≤ 7 := by
  have e1 : ((BitVec.ofInt 64 m).toNat &&& 7) ≤ 7 := Nat.and_le_right
  have e : bits BinOp.and IntKind.i64 m 7 = IntKind.i64.wrap (((BitVec.ofInt 64 m).toNat &&& 7 : Nat) : Int) := by
    show IntKind.i64.wrap ((BitVec.ofInt 64 m &&& BitVec.ofInt 64 7).toNat : Int) = _
    rw [BitVec.toNat_and]
    rfl
  refine ⟨(BitVec.ofInt 64 m).toNat &&& 7, ?_, e1⟩
  rw [e, IntKind.wrap_i64]
  omega
theorem tre_pairs {w0 w : World} {b lim n : Nat} {t : Sh} {kvs : List (Int × Int)} {Pr : Nat → Prop} (h : Tre w0 b lim n t kvs Pr w) (L : Nat) (hL : kvs.length = L) (hl : L ≤ 1000) :
    Calls Try.prog 23 #[.pointer (some ⟨b, 0, none⟩), .int .i64 1000] w fun e w' => ∃ A c, e = .returned (.slice A L c) ∧ PL w' A L kvs ∧ Keep w w' := by
  subst hL
  refine (pairs_some h (by omega) 1000 (by decide) (by decide)).mono ?_
  rintro e w' ⟨A, c, rfl, hr, hk⟩
  rw [List.take_of_length_le hl] at hr ⊢
  exact ⟨A, c, rfl, PL.of_row hr rfl, hk⟩
theorem pairs_none (b : Nat) (w : World) : Calls Try.prog 23 #[.pointer (some ⟨b, 0, none⟩), .int .i64 0] w fun e w' => ∃ A c, e = .returned (.slice A 0 c) ∧ Keep w w' := by
  refine (callsIn_wide (n := 3)).1 ?_
  refine callsIn_of_wp_marks Try.func23 rfl trivial ?_ rfl
  simp only [Try.ntmps23, List.size_toArray, List.length_cons, List.length_nil, Nat.reduceAdd, Nat.reduceSub, Array.replicate_succ, Array.replicate_zero, List.push_toArray, List.append_toArray, List.nil_append, List.cons_append]
  gi_wp2_with fail
  exact ⟨.slice (some ⟨w.heap.size + 1 + 1, 0, none⟩) 0 0, by simp [results, Try.f23, go_sem], _, _, rfl, ((((Keep.refl w).alloc _).alloc _).alloc _).alloc _⟩
theorem tre_few {w0 w : World} {b lim n : Nat} {t : Sh} {kvs : List (Int × Int)} {Pr : Nat → Prop} (h : Tre w0 b lim n t kvs Pr w) (L : Nat) (hL : kvs.length = L) (hl : L ≤ 1000) (mm : Nat) (hm : mm ≤ 7) :
    Calls Try.prog 23 #[.pointer (some ⟨b, 0, none⟩), .int .i64 mm] w fun e w' => ∃ A c, e = .returned (.slice A (min mm L) c) ∧ Keep w w' := by
  rcases Nat.eq_zero_or_pos mm with rfl | h0
  · rw [Nat.zero_min]
    exact pairs_none b w
  · refine (pairs_some h (by omega) mm h0 (by omega)).mono ?_
    rintro e w' ⟨A, c, rfl, -, hk⟩
    rw [List.length_take, hL]
    exact ⟨A, c, rfl, hk⟩
/-- Between two steps: as many rows, and keys, at most as steps. -/
def Stp (W0 : World) (bt bx lim i : Nat) (X : World) : Prop :=
  ∃ (A : Option Addr) (n c : Nat) (kr : List (Int × Int)) (B : Option Addr) (m d : Nat) (ever : List Int) (nn : Nat) (t : Sh), PSt W0 bt bx lim A n c kr B m d ever nn t kr (fun _ => False) X ∧ Ways t ever.reverse ∧ nn = nd ever.reverse ∧ n ≤ i ∧ m ≤ i
set_option maxRecDepth 100000 in
set_option maxHeartbeats 8000000 in
theorem SegtreePlays_std (lim0 : Int) (_wl : (Lit.int .i64 lim0).wf = true) (O : Option Addr) (len cap : Nat) (os : List OpG) (most : Int) (_wm : (Lit.int .i64 most).wf = true) (w : World) (row : OpA w O len os) :
    Calls Try.prog 3 #[.int .i64 lim0, .slice O len cap, .int .i64 most] w fun e w' => e = .returned (.bool true) ∧ Below w.heap.size w w' := by
  have HR := Lib.hid row
  clear row _wl _wm
  by_cases hlen : len ≤ 40
  · have hlI : decide (40 < (len : Int)) = false := decide_eq_false (by omega)
    by_cases hlim : lim0 < 1 ∨ 4194304 < lim0
    · by_cases hl1 : lim0 < 1
      · have hl2 : decide (lim0 < 1) = true := decide_eq_true hl1
        go_enter Try.func3, Try.ntmps3
        clear hl1
        go_wp2_with fail
        refine (alive_any w).mono ?_
        rintro e W0 ⟨rfl, hk0⟩
        have HK0 := Lib.hid hk0
        clear hk0
        go_wp2_with fail
        refine (tre_new_no lim0 W0 hlim).mono ?_
        rintro e W1 ⟨rfl, hk1⟩
        have HK1 := Lib.hid (HK0.out.trans hk1)
        clear hk1 hlim
        go_wp2
        go_ret
        exact ⟨rfl, HK1.out⟩
      · have hl2 : decide (lim0 < 1) = false := decide_eq_false hl1
        have hl3 : decide (4194304 < lim0) = true := decide_eq_true (by omega)
        go_enter Try.func3, Try.ntmps3
        clear hl1
        go_wp2_with fail
        refine (alive_any w).mono ?_
        rintro e W0 ⟨rfl, hk0⟩
        have HK0 := Lib.hid hk0
        clear hk0
        go_wp2_with fail
        refine (tre_new_no lim0 W0 hlim).mono ?_
        rintro e W1 ⟨rfl, hk1⟩
        have HK1 := Lib.hid (HK0.out.trans hk1)
        clear hk1 hlim
        go_wp2
        go_ret
        exact ⟨rfl, HK1.out⟩
    · obtain ⟨lim, rfl⟩ : ∃ lim : Nat, lim0 = lim := ⟨lim0.toNat, by omega⟩
      have hl1 : decide ((lim : Int) < 1) = false := decide_eq_false (by omega)
      have hl2 : decide (4194304 < (lim : Int)) = false := decide_eq_false (by omega)
      have hl3 : 1 ≤ lim ∧ lim ≤ 4194304 := by omega
      have HL := Lib.hid hl3
      clear hlim hl3
      go_enter Try.func3, Try.ntmps3
      go_wp2_with fail
      refine (alive_any w).mono ?_
      rintro e W0 ⟨rfl, hk0⟩
      have HK0 := Lib.hid hk0
      clear hk0
      go_wp2_with fail
      refine (tre_new lim W0 HL.out.1 HL.out.2).mono ?_
      rintro e W1 ⟨rfl, hT⟩
      have hps : PSt W0 (W0.heap.size + 1) W1.heap.size lim none 0 0 [] none 0 0 [] 0 .nil [] (fun _ => False) (W1.alloc (.cells #[.slice none 0 0, .slice none 0 0, .int .i64 lim] 31)) :=
        { box := RB.new W1 none 0 0 none 0 0 lim, row := ⟨rfl, fun j p h => (by cases h)⟩, evr := Lies.nil _ _ _, nil := fun _ => rfl, apA := fun _ _ h => (by cases h), apB := fun _ _ h => (by cases h), le := hT.keepW.size, rng := fun _ h => (by cases h),
          tre := (hT.keep ((Keep.refl W1).alloc _)).mono (fun k hk => by
            rcases hk with (rfl | ⟨_, h⟩ | ⟨_, h⟩) | h
            · exact .inr ⟨Nat.le_refl _, by simp⟩
            · cases h
            · cases h
            · exact h.elim) }
      have HS0 := Lib.hid (show Stp W0 (W0.heap.size + 1) W1.heap.size lim 0 _ from ⟨_, _, _, _, _, _, _, _, _, _, hps, Ways.nil, rfl, Nat.le_refl _, Nat.le_refl _⟩)
      clear hT hps
      go_wp2_with fail
      generalize W1.alloc (.cells #[.slice none 0 0, .slice none 0 0, .int .i64 lim] 31) = V0 at *
      generalize W1.heap.size = bx at *
      generalize W0.heap.size + 1 = bt at *
      go_loopw [53] (fun v X => ∃ i : Nat, v = .int .i64 i ∧ i ≤ len ∧ Hid (Stp W0 bt bx lim i X)) (fun v _ => len - (intOf v).toNat)
      case atStart => exact ⟨0, rfl, by omega, HS0⟩
      case round =>
        obtain ⟨i, rfl, hi, HST⟩ := hrel
        clear HS0
        by_cases hil : i < len
        · obtain ⟨A, n, c, kr, B, m, d, ever, nn, t, hst, hwy, hnn, hni, hmi⟩ := HST.out
          obtain ⟨o, ho⟩ : ∃ o, os[i]? = some o := ⟨_, List.getElem?_eq_getElem (by rw [HR.out.1]; exact hil)⟩
          have hKw : Keep w wr := HK0.out.trans hst.keepW
          obtain ⟨b, off, rfl, hb, c0, c1, c2, c3⟩ := HR.out.2.1 i o ho
          have e0 := (hKw.cell (p := ⟨b, off + i * 4, none⟩) hb).trans c0
          have e1 := (hKw.cell (p := ⟨b, off + i * 4 + 1, none⟩) hb).trans c1
          have e2 := (hKw.cell (p := ⟨b, off + i * 4 + 2, none⟩) hb).trans c2
          have e3 := (hKw.cell (p := ⟨b, off + i * 4 + 3, none⟩) hb).trans c3
          have hok := HR.out.2.2 o (List.mem_of_getElem? ho)
          have hiI : (i : Int) < (len : Int) := by omega
          have HOK := Lib.hid hok
          have HWY := Lib.hid hwy
          have HNN := Lib.hid hnn
          have HPS := Lib.hid hst
          have hbo := OpB.new wr o
          have hrises := hst.tre.rises
          have HRI := Lib.hid hrises
          have hbxl := hst.box.lt
          obtain ⟨x0, x1, x2⟩ := hst.box.cells
          clear hst hwy hnn ho hKw hb c0 c1 c2 c3 hok HST hrises
          go_wp2_with fail
          clear x0 x1 x2 e0 e1 e2 e3 hbxl
          have hbs := SpB.new (wr.alloc (.cells #[.int .i64 o.kind, .int .u32 o.key, .int .u32 o.hi, .int .i64 o.val] 34)) o.key o.hi
          rw [World.size_alloc] at hbs
          have hk2 : Keep wr ((wr.alloc (.cells #[.int .i64 o.kind, .int .u32 o.key, .int .u32 o.hi, .int .i64 o.val] 34)).alloc (.cells #[.int .u32 o.key, .int .u32 o.hi] 36)) := ((Keep.refl wr).alloc _).alloc _
          have hbo2 := hbo.keep ((Keep.refl _).alloc (.cells #[.int .u32 o.key, .int .u32 o.hi] 36))
          have hsz2 : ((wr.alloc (.cells #[.int .i64 o.kind, .int .u32 o.key, .int .u32 o.hi, .int .i64 o.val] 34)).alloc (.cells #[.int .u32 o.key, .int .u32 o.hi] 36)).heap.size = wr.heap.size + 2 := by simp
          have HBO := Lib.hid hbo2
          have HBS := Lib.hid hbs
          have HPS2 := Lib.hid ((HPS.out.keep hk2).mono (Z' := fun k => wr.heap.size ≤ k ∧ k < wr.heap.size + 2) (fun k h => .inr (by rw [hsz2]; exact h)))
          have HSZ2 := Lib.hid hsz2
          have HWS := Lib.hid (show bx < wr.heap.size from HPS.out.box.lt)
          clear hbo hbo2 hbs hk2 hsz2 HPS
          generalize (wr.alloc (.cells #[.int .i64 o.kind, .int .u32 o.key, .int .u32 o.hi, .int .i64 o.val] 34)).alloc (.cells #[.int .u32 o.key, .int .u32 o.hi] 36) = V2 at *
          generalize wr.heap.size = q at *
          have hfold := rfold_is A n c kr B m d lim o.key o.key V2 HPS2.out.row (by omega) (fun p hp => (HPS2.out.tre.range p hp).2.2)
          have hcnt := one_cnt HRI.out o.key
          obtain ⟨oc, os1, on, ox, hone⟩ : ∃ c s n x, ofL (vs (kr.filter (inS o.key o.key))) = ⟨c, s, n, x⟩ := ⟨_, _, _, _, rfl⟩
          rw [hone] at hfold hcnt
          refine hfold.mono ?_
          rintro e w3 ⟨rfl, hk3⟩
          have hV4 := hk3.alloc (.cells #[.int .i64 oc, .int .i64 os1, .int .i64 on, .int .i64 ox] 38)
          have hkn := (Keep.refl w3).alloc (.cells #[.int .i64 oc, .int .i64 os1, .int .i64 on, .int .i64 ox] 38)
          have hag := AgAt.new w3 ⟨oc, os1, on, ox⟩
          have hq3 : q + 2 ≤ w3.heap.size := by have := hk3.size; have := HSZ2.out; omega
          have hps4 := (HPS2.out.keep hV4).mono (Z' := fun k => q ≤ k ∧ k < (w3.alloc (.cells #[.int .i64 oc, .int .i64 os1, .int .i64 on, .int .i64 ox] 38)).heap.size) (fun k h => by
            by_cases hq : k < q + 2
            · exact .inl ⟨h.1, hq⟩
            · exact .inr ⟨by have := HSZ2.out; omega, h.2⟩)
          have HPS := Lib.hid hps4
          have HBO4 := Lib.hid (HBO.out.keep hV4)
          have HBS4 := Lib.hid (HBS.out.keep hV4)
          have HONE := Lib.hid hag
          have HCNT := Lib.hid hcnt
          have HON := Lib.hid hone
          have HQ3 := Lib.hid hq3
          clear hfold hone hcnt hV4 hkn hag hq3 hps4 hk3 HBO HBS HPS2
          dsimp only at HCNT
          dsimp only
          by_cases h5 : o.kind = 5
          · have k0 : (o.kind == 0) = false := by rw [beq_eq_false_iff_ne]; omega
            have k1 : (o.kind == 1) = false := by rw [beq_eq_false_iff_ne]; omega
            have k2 : (o.kind == 2) = false := by rw [beq_eq_false_iff_ne]; omega
            have k3 : (o.kind == 3) = false := by rw [beq_eq_false_iff_ne]; omega
            have k4 : (o.kind == 4) = false := by rw [beq_eq_false_iff_ne]; omega
            have k5 : (o.kind == 5) = true := by rw [beq_iff_eq]; exact h5
            clear h5
            cases hvb : hasK kr o.key
            · rw [hvb] at HCNT
              obtain rfl : oc = 0 := HCNT.out
              clear hvb
              obtain ⟨x0, x1, x2⟩ := HPS.out.box.cells
              obtain ⟨o0, o1, o2, o3⟩ := HBO4.out.cells
              obtain ⟨s0, s1⟩ := HBS4.out.cells
              obtain ⟨n0, n1, n2, n3⟩ := HONE.out.cells
              dsimp only at n0 n1 n2 n3
              go_wp2_with fail
              clear x0 x1 x2 o0 o1 o2 o3 s0 s1 n0 n1 n2 n3
              generalize w3.alloc (.cells #[.int .i64 0, .int .i64 os1, .int .i64 on, .int .i64 ox] 38) = V4 at *
              generalize w3.heap.size = b1 at *

              refine (tre_get HPS.out.tre (by have := HPS.out.row.1; omega) o.key ⟨0, os1, on, ox⟩ HON.out false (show decide ((0 : Int) < 0) = false by decide)).mono ?_
              rintro e w5 ⟨rfl, hk5⟩
              have HPS9 := Lib.hid (HPS.out.kept hk5)
              have HONE5 := Lib.hid (HONE.out.keep hk5)
              clear hk5
              obtain ⟨n0, n1, n2, n3⟩ := HONE5.out.cells
              dsimp only at n0 n1 n2 n3
              have HWY9 := HWY
              have HNN9 := HNN
              dsimp only
              go_wp2_with fail
              clear n0 n1 n2 n3

              have HPSm := Lib.hid (HPS9.out.mono (Z' := fun _ => False) (fun _ h => h.elim))
              have hKc := (Keep.refl w5).drew
              have HBOX := Lib.hid (show ∀ W, Keep w5 W → W.cell? ⟨bx, 1, none⟩ = some (.slice B m d) from fun W hW => (HPSm.out.box.keep hW).cells.2.1)
              have hrn := fun W (hW : Keep w5 W) => rnodes_is B m d ever W ((HPSm.out.evr.below hW).more hW.size) HPSm.out.rng (by omega)
              rw [← HNN9.out] at hrn
              have htn := fun W (hW : Keep w5 W) => (tre_nodes (HPSm.out.tre.kept hW)).mono (fun e w' h => (show e = _ ∧ Keep W w' from ⟨h.1, by rw [h.2]; exact Keep.refl _⟩))
              refine seq_region (S := fun w' => Keep w5 w') [⟨0, 16384, 1461501637330902918203684832716283019655932542976⟩, ⟨1, 1461501637330902918203684832716283019655932542976, 2923003274661805836407369665432566039311865085952⟩, ⟨2, 2923003274661805836407369665432566039311865085952, 5846006549323611672814739330865132078623730171904⟩, ⟨4, 5846006549323611672814739330865132078623730172032, 11692013098647223345629478661730264157247460343808⟩, ⟨12, 17538019647970835018444217992595396235871190515712, 23384026197294446691258957323460528314494920687616⟩, ⟨4, 5846006549323611672814739330865132078623730172416, 46768052394588893382517914646921056628989841375232⟩, ⟨36, 52614058943912505055332653977786188707613571547136, 93536104789177786765035829293842113257979682750464⟩, ⟨84, 99382111338501398437850568624707245336603412922368, 187072209578355573530071658587684226515959365500928⟩, ⟨148, 216302242324973631894145355242009886909078016360448, 374144419156711147060143317175368453031918731001856⟩, ⟨260, 379990425706034758732958056506233585110542461173760, 748288838313422294120286634350736906063837462003712⟩] [(0, false), (1, false), (2, false), (3, false), (5, false), (6, false), (4, true), (7, true), (8, false), (9, false)] rfl (by kernel_rfl) (by kernel_rfl) (fun _ _ d _ _ h => by cases d <;> exact h) hKc ?_
              simp only [rowsOf, rowAt, gslot, List.map_cons, List.map_nil, List.getElem?_toArray, List.getElem?_cons_zero, List.getElem?_cons_succ]
              repeat (first
                | (refine seq_take (v := ?_) (a' := ?_) (by rfl) ?_ ?_ ?_
                   rotate_left 2
                   · (intro w hSw; have hcs := HBOX.out w hSw; clear hSw; go_split_ands; go_simp; with_reducible rfl)
                   · (simp only [Act.put, List.setIfInBounds_toArray, List.set_cons_zero, List.set_cons_succ]; with_reducible rfl))
                | (refine seq_skip (a' := ?_) hKc (by rfl) ?_ ?_
                   rotate_left
                   · (simp only [Act.put, List.setIfInBounds_toArray, List.set_cons_zero, List.set_cons_succ]; with_reducible rfl)))
              refine seq_callR (R := fun _ => True) (f := 20) (args := ?_) (v := ?_) (a' := ?_) (by rfl) (by rfl) (by rfl) Try.call20 ?_ ?_ ?_ ?_
              rotate_left 3
              · (go_simp; with_reducible rfl)
              · ((with_reducible refine Calls.mono (htn _ hKc) ?_)
                 rintro e w' ⟨rfl, hk⟩
                 refine ⟨?_, hKc.trans hk, trivial⟩
                 with_reducible rfl)
              · (simp only [Act.put, List.setIfInBounds_toArray, List.set_cons_zero, List.set_cons_succ]; with_reducible rfl)
              clear hKc
              intro wn hKc _
              repeat (first
                | (refine seq_take (v := ?_) (a' := ?_) (by rfl) ?_ ?_ ?_
                   rotate_left 2
                   · (intro w hSw; have hcs := HBOX.out w hSw; clear hSw; go_split_ands; go_simp; with_reducible rfl)
                   · (simp only [Act.put, List.setIfInBounds_toArray, List.set_cons_zero, List.set_cons_succ]; with_reducible rfl))
                | (refine seq_skip (a' := ?_) hKc (by rfl) ?_ ?_
                   rotate_left
                   · (simp only [Act.put, List.setIfInBounds_toArray, List.set_cons_zero, List.set_cons_succ]; with_reducible rfl)))
              refine seq_callR (R := fun _ => True) (f := 21) (args := ?_) (v := ?_) (a' := ?_) (by rfl) (by rfl) (by rfl) Try.call21 ?_ ?_ ?_ ?_
              rotate_left 3
              · (go_simp; with_reducible rfl)
              · ((with_reducible refine Calls.mono (hrn _ hKc) ?_)
                 rintro e w' ⟨rfl, hk⟩
                 refine ⟨?_, hKc.trans hk, trivial⟩
                 with_reducible rfl)
              · (simp only [Act.put, List.setIfInBounds_toArray, List.set_cons_zero, List.set_cons_succ]; with_reducible rfl)
              clear hKc
              intro wn hKc _
              repeat (first
                | (refine seq_take (v := ?_) (a' := ?_) (by rfl) ?_ ?_ ?_
                   rotate_left 2
                   · (intro w hSw; have hcs := HBOX.out w hSw; clear hSw; go_split_ands; go_simp; with_reducible rfl)
                   · (simp only [Act.put, List.setIfInBounds_toArray, List.set_cons_zero, List.set_cons_succ]; with_reducible rfl))
                | (refine seq_skip (a' := ?_) hKc (by rfl) ?_ ?_
                   rotate_left
                   · (simp only [Act.put, List.setIfInBounds_toArray, List.set_cons_zero, List.set_cons_succ]; with_reducible rfl)))
              refine seq_nil ?_
              have HNEXT := Lib.hid (show Stp W0 bt bx lim (i + 1) wn from ⟨_, _, _, _, _, _, _, _, _, _, HPSm.out.kept hKc, HWY9.out, HNN9.out, by omega, by omega⟩)
              clear hKc HBOX hrn htn
              go_wp2
              go_roundw
              case rel => exact ⟨i + 1, by go_num, by omega, HNEXT⟩
              case measure => simp [intOf]; omega
            · rw [hvb] at HCNT
              obtain rfl : oc = 1 := HCNT.out
              clear hvb
              obtain ⟨x0, x1, x2⟩ := HPS.out.box.cells
              obtain ⟨o0, o1, o2, o3⟩ := HBO4.out.cells
              obtain ⟨s0, s1⟩ := HBS4.out.cells
              obtain ⟨n0, n1, n2, n3⟩ := HONE.out.cells
              dsimp only at n0 n1 n2 n3
              go_wp2_with fail
              clear x0 x1 x2 o0 o1 o2 o3 s0 s1 n0 n1 n2 n3
              generalize w3.alloc (.cells #[.int .i64 1, .int .i64 os1, .int .i64 on, .int .i64 ox] 38) = V4 at *
              generalize w3.heap.size = b1 at *

              refine (tre_get HPS.out.tre (by have := HPS.out.row.1; omega) o.key ⟨1, os1, on, ox⟩ HON.out true (show decide ((0 : Int) < 1) = true by decide)).mono ?_
              rintro e w5 ⟨rfl, hk5⟩
              have HPS9 := Lib.hid (HPS.out.kept hk5)
              have HONE5 := Lib.hid (HONE.out.keep hk5)
              clear hk5
              obtain ⟨n0, n1, n2, n3⟩ := HONE5.out.cells
              dsimp only at n0 n1 n2 n3
              have HWY9 := HWY
              have HNN9 := HNN
              dsimp only
              go_wp2_with fail
              clear n0 n1 n2 n3

              have HPSm := Lib.hid (HPS9.out.mono (Z' := fun _ => False) (fun _ h => h.elim))
              have hKc := (Keep.refl w5).drew
              have HBOX := Lib.hid (show ∀ W, Keep w5 W → W.cell? ⟨bx, 1, none⟩ = some (.slice B m d) from fun W hW => (HPSm.out.box.keep hW).cells.2.1)
              have hrn := fun W (hW : Keep w5 W) => rnodes_is B m d ever W ((HPSm.out.evr.below hW).more hW.size) HPSm.out.rng (by omega)
              rw [← HNN9.out] at hrn
              have htn := fun W (hW : Keep w5 W) => (tre_nodes (HPSm.out.tre.kept hW)).mono (fun e w' h => (show e = _ ∧ Keep W w' from ⟨h.1, by rw [h.2]; exact Keep.refl _⟩))
              refine seq_region (S := fun w' => Keep w5 w') [⟨0, 16384, 1461501637330902918203684832716283019655932542976⟩, ⟨1, 1461501637330902918203684832716283019655932542976, 2923003274661805836407369665432566039311865085952⟩, ⟨2, 2923003274661805836407369665432566039311865085952, 5846006549323611672814739330865132078623730171904⟩, ⟨4, 5846006549323611672814739330865132078623730172032, 11692013098647223345629478661730264157247460343808⟩, ⟨12, 17538019647970835018444217992595396235871190515712, 23384026197294446691258957323460528314494920687616⟩, ⟨4, 5846006549323611672814739330865132078623730172416, 46768052394588893382517914646921056628989841375232⟩, ⟨36, 52614058943912505055332653977786188707613571547136, 93536104789177786765035829293842113257979682750464⟩, ⟨84, 99382111338501398437850568624707245336603412922368, 187072209578355573530071658587684226515959365500928⟩, ⟨148, 216302242324973631894145355242009886909078016360448, 374144419156711147060143317175368453031918731001856⟩, ⟨260, 379990425706034758732958056506233585110542461173760, 748288838313422294120286634350736906063837462003712⟩] [(0, false), (1, false), (2, false), (3, false), (5, false), (6, false), (4, true), (7, true), (8, false), (9, false)] rfl (by kernel_rfl) (by kernel_rfl) (fun _ _ d _ _ h => by cases d <;> exact h) hKc ?_
              simp only [rowsOf, rowAt, gslot, List.map_cons, List.map_nil, List.getElem?_toArray, List.getElem?_cons_zero, List.getElem?_cons_succ]
              repeat (first
                | (refine seq_take (v := ?_) (a' := ?_) (by rfl) ?_ ?_ ?_
                   rotate_left 2
                   · (intro w hSw; have hcs := HBOX.out w hSw; clear hSw; go_split_ands; go_simp; with_reducible rfl)
                   · (simp only [Act.put, List.setIfInBounds_toArray, List.set_cons_zero, List.set_cons_succ]; with_reducible rfl))
                | (refine seq_skip (a' := ?_) hKc (by rfl) ?_ ?_
                   rotate_left
                   · (simp only [Act.put, List.setIfInBounds_toArray, List.set_cons_zero, List.set_cons_succ]; with_reducible rfl)))
              refine seq_callR (R := fun _ => True) (f := 20) (args := ?_) (v := ?_) (a' := ?_) (by rfl) (by rfl) (by rfl) Try.call20 ?_ ?_ ?_ ?_
              rotate_left 3
              · (go_simp; with_reducible rfl)
              · ((with_reducible refine Calls.mono (htn _ hKc) ?_)
                 rintro e w' ⟨rfl, hk⟩
                 refine ⟨?_, hKc.trans hk, trivial⟩
                 with_reducible rfl)
              · (simp only [Act.put, List.setIfInBounds_toArray, List.set_cons_zero, List.set_cons_succ]; with_reducible rfl)
              clear hKc
              intro wn hKc _
              repeat (first
                | (refine seq_take (v := ?_) (a' := ?_) (by rfl) ?_ ?_ ?_
                   rotate_left 2
                   · (intro w hSw; have hcs := HBOX.out w hSw; clear hSw; go_split_ands; go_simp; with_reducible rfl)
                   · (simp only [Act.put, List.setIfInBounds_toArray, List.set_cons_zero, List.set_cons_succ]; with_reducible rfl))
                | (refine seq_skip (a' := ?_) hKc (by rfl) ?_ ?_
                   rotate_left
                   · (simp only [Act.put, List.setIfInBounds_toArray, List.set_cons_zero, List.set_cons_succ]; with_reducible rfl)))
              refine seq_callR (R := fun _ => True) (f := 21) (args := ?_) (v := ?_) (a' := ?_) (by rfl) (by rfl) (by rfl) Try.call21 ?_ ?_ ?_ ?_
              rotate_left 3
              · (go_simp; with_reducible rfl)
              · ((with_reducible refine Calls.mono (hrn _ hKc) ?_)
                 rintro e w' ⟨rfl, hk⟩
                 refine ⟨?_, hKc.trans hk, trivial⟩
                 with_reducible rfl)
              · (simp only [Act.put, List.setIfInBounds_toArray, List.set_cons_zero, List.set_cons_succ]; with_reducible rfl)
              clear hKc
              intro wn hKc _
              repeat (first
                | (refine seq_take (v := ?_) (a' := ?_) (by rfl) ?_ ?_ ?_
                   rotate_left 2
                   · (intro w hSw; have hcs := HBOX.out w hSw; clear hSw; go_split_ands; go_simp; with_reducible rfl)
                   · (simp only [Act.put, List.setIfInBounds_toArray, List.set_cons_zero, List.set_cons_succ]; with_reducible rfl))
                | (refine seq_skip (a' := ?_) hKc (by rfl) ?_ ?_
                   rotate_left
                   · (simp only [Act.put, List.setIfInBounds_toArray, List.set_cons_zero, List.set_cons_succ]; with_reducible rfl)))
              refine seq_nil ?_
              have HNEXT := Lib.hid (show Stp W0 bt bx lim (i + 1) wn from ⟨_, _, _, _, _, _, _, _, _, _, HPSm.out.kept hKc, HWY9.out, HNN9.out, by omega, by omega⟩)
              clear hKc HBOX hrn htn
              go_wp2
              go_roundw
              case rel => exact ⟨i + 1, by go_num, by omega, HNEXT⟩
              case measure => simp [intOf]; omega
          · by_cases h4 : o.kind = 4
            · have k0 : (o.kind == 0) = false := by rw [beq_eq_false_iff_ne]; omega
              have k1 : (o.kind == 1) = false := by rw [beq_eq_false_iff_ne]; omega
              have k2 : (o.kind == 2) = false := by rw [beq_eq_false_iff_ne]; omega
              have k3 : (o.kind == 3) = false := by rw [beq_eq_false_iff_ne]; omega
              have k4 : (o.kind == 4) = true := by rw [beq_iff_eq]; exact h4
              clear h4 h5
              obtain ⟨x0, x1, x2⟩ := HPS.out.box.cells
              obtain ⟨o0, o1, o2, o3⟩ := HBO4.out.cells
              obtain ⟨s0, s1⟩ := HBS4.out.cells
              obtain ⟨n0, n1, n2, n3⟩ := HONE.out.cells
              dsimp only at n0 n1 n2 n3
              go_wp2_with fail
              clear x0 x1 x2 o0 o1 o2 o3 s0 s1 n0 n1 n2 n3
              generalize w3.alloc (.cells #[.int .i64 oc, .int .i64 os1, .int .i64 on, .int .i64 ox] 38) = V4 at *
              generalize w3.heap.size = b1 at *

              obtain ⟨fc, fs, fn, fx, hff⟩ : ∃ c s n x, ofL (vs (kr.filter (inS o.key o.hi))) = ⟨c, s, n, x⟩ := ⟨_, _, _, _, rfl⟩
              have htf := fun W (hW : Keep V4 W) => tre_fold (HPS.out.tre.kept hW) (by have := HPS.out.row.1; omega) o.key o.hi
              have hrf := fun W (hW : Keep V4 W) => rfold_is A n c kr B m d lim o.key o.hi W (HPS.out.row.keep hW) (by omega) (fun p hp => (HPS.out.tre.range p hp).2.2)
              rw [hff] at htf hrf
              have q1 := equal_ag fc fs fn fx
              have hKc := (Keep.refl V4).drew
              have HBOX := Lib.hid (show ∀ W, Keep V4 W → (W.cell? ⟨bx, 0, none⟩ = some (.slice A n c) ∧ W.cell? ⟨bx, 1, none⟩ = some (.slice B m d) ∧ W.cell? ⟨bx, 2, none⟩ = some (.int .i64 lim)) ∧ (W.cell? ⟨q + 1, 0, none⟩ = some (.int .u32 o.key) ∧ W.cell? ⟨q + 1, 1, none⟩ = some (.int .u32 o.hi)) from fun W hW => ⟨(HPS.out.box.keep hW).cells, (HBS4.out.keep hW).cells⟩)
              refine seq_region (S := fun w' => Keep V4 w') [⟨0, 128, 10889035741470030830827987437816582766592⟩, ⟨0, 4096, 21778071482940061661655974875633165533184⟩, ⟨3, 32667107224410092492483962313449748299776, 43556142965880123323311949751266331066368⟩, ⟨0, 512, 87112285931760246646623899502532662132736⟩, ⟨0, 4096, 174224571863520493293247799005065324265472⟩, ⟨28, 261336857795280739939871698507597986398208, 348449143727040986586495598010130648530944⟩, ⟨36, 392005286692921109909807547761396979597312, 696898287454081973172991196020261297061888⟩, ⟨127, 696898287454081973172991196020261297061888, 16384⟩] [(0, false), (1, false), (3, false), (4, false), (2, true), (5, true), (6, false), (7, false)] rfl (by kernel_rfl) (by kernel_rfl) (fun _ _ d _ _ h => by cases d <;> exact h) hKc ?_
              simp only [rowsOf, rowAt, gslot, List.map_cons, List.map_nil, List.getElem?_toArray, List.getElem?_cons_zero, List.getElem?_cons_succ]
              repeat (first
                | (refine seq_take (v := ?_) (a' := ?_) (by rfl) ?_ ?_ ?_
                   rotate_left 2
                   · (intro w hSw; have hcs := HBOX.out w hSw; clear hSw; go_split_ands; go_simp; with_reducible rfl)
                   · (simp only [Act.put, List.setIfInBounds_toArray, List.set_cons_zero, List.set_cons_succ]; with_reducible rfl))
                | (refine seq_skip (a' := ?_) hKc (by rfl) ?_ ?_
                   rotate_left
                   · (simp only [Act.put, List.setIfInBounds_toArray, List.set_cons_zero, List.set_cons_succ]; with_reducible rfl)))
              refine seq_callR (R := fun _ => True) (f := 18) (args := ?_) (v := ?_) (a' := ?_) (by rfl) (by rfl) (by rfl) Try.call18 ?_ ?_ ?_ ?_
              rotate_left 3
              · (go_simp; with_reducible rfl)
              · ((with_reducible refine Calls.mono (htf _ hKc) ?_)
                 rintro e w' ⟨rfl, hk⟩
                 refine ⟨?_, hKc.trans hk, trivial⟩
                 with_reducible rfl)
              · (simp only [Act.put, List.setIfInBounds_toArray, List.set_cons_zero, List.set_cons_succ]; with_reducible rfl)
              clear hKc
              intro wn hKc _
              repeat (first
                | (refine seq_take (v := ?_) (a' := ?_) (by rfl) ?_ ?_ ?_
                   rotate_left 2
                   · (intro w hSw; have hcs := HBOX.out w hSw; clear hSw; go_split_ands; go_simp; with_reducible rfl)
                   · (simp only [Act.put, List.setIfInBounds_toArray, List.set_cons_zero, List.set_cons_succ]; with_reducible rfl))
                | (refine seq_skip (a' := ?_) hKc (by rfl) ?_ ?_
                   rotate_left
                   · (simp only [Act.put, List.setIfInBounds_toArray, List.set_cons_zero, List.set_cons_succ]; with_reducible rfl)))
              refine seq_callR (R := fun _ => True) (f := 11) (args := ?_) (v := ?_) (a' := ?_) (by rfl) (by rfl) (by rfl) Try.call11 ?_ ?_ ?_ ?_
              rotate_left 3
              · (go_simp; with_reducible rfl)
              · ((with_reducible refine Calls.mono (hrf _ hKc) ?_)
                 rintro e w' ⟨rfl, hk⟩
                 refine ⟨?_, hKc.trans hk, trivial⟩
                 with_reducible rfl)
              · (simp only [Act.put, List.setIfInBounds_toArray, List.set_cons_zero, List.set_cons_succ]; with_reducible rfl)
              clear hKc
              intro wn hKc _
              repeat (first
                | (refine seq_take (v := ?_) (a' := ?_) (by rfl) ?_ ?_ ?_
                   rotate_left 2
                   · (intro w hSw; have hcs := HBOX.out w hSw; clear hSw; go_split_ands; go_simp; with_reducible rfl)
                   · (simp only [Act.put, List.setIfInBounds_toArray, List.set_cons_zero, List.set_cons_succ]; with_reducible rfl))
                | (refine seq_skip (a' := ?_) hKc (by rfl) ?_ ?_
                   rotate_left
                   · (simp only [Act.put, List.setIfInBounds_toArray, List.set_cons_zero, List.set_cons_succ]; with_reducible rfl)))
              refine seq_nil ?_
              have HPS9 := Lib.hid (HPS.out.kept hKc)
              have HWY9 := HWY
              have HNN9 := HNN
              clear hKc HBOX htf hrf q1 hff
              generalize wn = w9 at *
              go_wp2_with fail

              have HPSm := Lib.hid (HPS9.out.mono (Z' := fun _ => False) (fun _ h => h.elim))
              have hKc := (Keep.refl w9).drew
              have HBOX := Lib.hid (show ∀ W, Keep w9 W → W.cell? ⟨bx, 1, none⟩ = some (.slice B m d) from fun W hW => (HPSm.out.box.keep hW).cells.2.1)
              have hrn := fun W (hW : Keep w9 W) => rnodes_is B m d ever W ((HPSm.out.evr.below hW).more hW.size) HPSm.out.rng (by omega)
              rw [← HNN9.out] at hrn
              have htn := fun W (hW : Keep w9 W) => (tre_nodes (HPSm.out.tre.kept hW)).mono (fun e w' h => (show e = _ ∧ Keep W w' from ⟨h.1, by rw [h.2]; exact Keep.refl _⟩))
              refine seq_region (S := fun w' => Keep w9 w') [⟨0, 16384, 1461501637330902918203684832716283019655932542976⟩, ⟨1, 1461501637330902918203684832716283019655932542976, 2923003274661805836407369665432566039311865085952⟩, ⟨2, 2923003274661805836407369665432566039311865085952, 5846006549323611672814739330865132078623730171904⟩, ⟨4, 5846006549323611672814739330865132078623730172032, 11692013098647223345629478661730264157247460343808⟩, ⟨12, 17538019647970835018444217992595396235871190515712, 23384026197294446691258957323460528314494920687616⟩, ⟨4, 5846006549323611672814739330865132078623730172416, 46768052394588893382517914646921056628989841375232⟩, ⟨36, 52614058943912505055332653977786188707613571547136, 93536104789177786765035829293842113257979682750464⟩, ⟨84, 99382111338501398437850568624707245336603412922368, 187072209578355573530071658587684226515959365500928⟩, ⟨148, 216302242324973631894145355242009886909078016360448, 374144419156711147060143317175368453031918731001856⟩, ⟨260, 379990425706034758732958056506233585110542461173760, 748288838313422294120286634350736906063837462003712⟩] [(0, false), (1, false), (2, false), (3, false), (5, false), (6, false), (4, true), (7, true), (8, false), (9, false)] rfl (by kernel_rfl) (by kernel_rfl) (fun _ _ d _ _ h => by cases d <;> exact h) hKc ?_
              simp only [rowsOf, rowAt, gslot, List.map_cons, List.map_nil, List.getElem?_toArray, List.getElem?_cons_zero, List.getElem?_cons_succ]
              repeat (first
                | (refine seq_take (v := ?_) (a' := ?_) (by rfl) ?_ ?_ ?_
                   rotate_left 2
                   · (intro w hSw; have hcs := HBOX.out w hSw; clear hSw; go_split_ands; go_simp; with_reducible rfl)
                   · (simp only [Act.put, List.setIfInBounds_toArray, List.set_cons_zero, List.set_cons_succ]; with_reducible rfl))
                | (refine seq_skip (a' := ?_) hKc (by rfl) ?_ ?_
                   rotate_left
                   · (simp only [Act.put, List.setIfInBounds_toArray, List.set_cons_zero, List.set_cons_succ]; with_reducible rfl)))
              refine seq_callR (R := fun _ => True) (f := 20) (args := ?_) (v := ?_) (a' := ?_) (by rfl) (by rfl) (by rfl) Try.call20 ?_ ?_ ?_ ?_
              rotate_left 3
              · (go_simp; with_reducible rfl)
              · ((with_reducible refine Calls.mono (htn _ hKc) ?_)
                 rintro e w' ⟨rfl, hk⟩
                 refine ⟨?_, hKc.trans hk, trivial⟩
                 with_reducible rfl)
              · (simp only [Act.put, List.setIfInBounds_toArray, List.set_cons_zero, List.set_cons_succ]; with_reducible rfl)
              clear hKc
              intro wn hKc _
              repeat (first
                | (refine seq_take (v := ?_) (a' := ?_) (by rfl) ?_ ?_ ?_
                   rotate_left 2
                   · (intro w hSw; have hcs := HBOX.out w hSw; clear hSw; go_split_ands; go_simp; with_reducible rfl)
                   · (simp only [Act.put, List.setIfInBounds_toArray, List.set_cons_zero, List.set_cons_succ]; with_reducible rfl))
                | (refine seq_skip (a' := ?_) hKc (by rfl) ?_ ?_
                   rotate_left
                   · (simp only [Act.put, List.setIfInBounds_toArray, List.set_cons_zero, List.set_cons_succ]; with_reducible rfl)))
              refine seq_callR (R := fun _ => True) (f := 21) (args := ?_) (v := ?_) (a' := ?_) (by rfl) (by rfl) (by rfl) Try.call21 ?_ ?_ ?_ ?_
              rotate_left 3
              · (go_simp; with_reducible rfl)
              · ((with_reducible refine Calls.mono (hrn _ hKc) ?_)
                 rintro e w' ⟨rfl, hk⟩
                 refine ⟨?_, hKc.trans hk, trivial⟩
                 with_reducible rfl)
              · (simp only [Act.put, List.setIfInBounds_toArray, List.set_cons_zero, List.set_cons_succ]; with_reducible rfl)
              clear hKc
              intro wn hKc _
              repeat (first
                | (refine seq_take (v := ?_) (a' := ?_) (by rfl) ?_ ?_ ?_
                   rotate_left 2
                   · (intro w hSw; have hcs := HBOX.out w hSw; clear hSw; go_split_ands; go_simp; with_reducible rfl)
                   · (simp only [Act.put, List.setIfInBounds_toArray, List.set_cons_zero, List.set_cons_succ]; with_reducible rfl))
                | (refine seq_skip (a' := ?_) hKc (by rfl) ?_ ?_
                   rotate_left
                   · (simp only [Act.put, List.setIfInBounds_toArray, List.set_cons_zero, List.set_cons_succ]; with_reducible rfl)))
              refine seq_nil ?_
              have HNEXT := Lib.hid (show Stp W0 bt bx lim (i + 1) wn from ⟨_, _, _, _, _, _, _, _, _, _, HPSm.out.kept hKc, HWY9.out, HNN9.out, by omega, by omega⟩)
              clear hKc HBOX hrn htn
              go_wp2
              go_roundw
              case rel => exact ⟨i + 1, by go_num, by omega, HNEXT⟩
              case measure => simp [intOf]; omega
            · by_cases h3 : o.kind = 3
              · have k0 : (o.kind == 0) = false := by rw [beq_eq_false_iff_ne]; omega
                have k1 : (o.kind == 1) = false := by rw [beq_eq_false_iff_ne]; omega
                have k2 : (o.kind == 2) = false := by rw [beq_eq_false_iff_ne]; omega
                have k3 : (o.kind == 3) = true := by rw [beq_iff_eq]; exact h3
                clear h3 h4 h5
                obtain ⟨x0, x1, x2⟩ := HPS.out.box.cells
                obtain ⟨o0, o1, o2, o3⟩ := HBO4.out.cells
                obtain ⟨s0, s1⟩ := HBS4.out.cells
                obtain ⟨n0, n1, n2, n3⟩ := HONE.out.cells
                dsimp only at n0 n1 n2 n3
                go_wp2_with fail
                clear x0 x1 x2 o0 o1 o2 o3 s0 s1 n0 n1 n2 n3
                generalize w3.alloc (.cells #[.int .i64 oc, .int .i64 os1, .int .i64 on, .int .i64 ox] 38) = V4 at *
                generalize w3.heap.size = b1 at *

                have hfo := rfold_is A n c kr B m d lim o.key o.hi V4 HPS.out.row (by omega) (fun p hp => (HPS.out.tre.range p hp).2.2)
                obtain ⟨fc, fs, fn, fx, hff⟩ : ∃ c s n x, ofL (vs (kr.filter (inS o.key o.hi))) = ⟨c, s, n, x⟩ := ⟨_, _, _, _, rfl⟩
                rw [hff] at hfo
                have run1 := run_count ⟨fc, fs, fn, fx⟩
                dsimp only at run1
                refine hfo.mono ?_
                rintro e w5 ⟨rfl, hk5⟩
                have HP5 := Lib.hid (HPS.out.keepq hk5)
                have HS5 := Lib.hid (HBS4.out.keep hk5)
                have HFF := Lib.hid hff
                clear hfo hff
                obtain ⟨x0, x1, x2⟩ := HP5.out.box.cells
                obtain ⟨s0, s1⟩ := HS5.out.cells

                dsimp only
                go_wp2_with fail
                have hrk := rkill_is A n c kr B m d lim o.key o.hi w5 HP5.out.row (by omega)
                obtain ⟨kr9, hkr9⟩ : ∃ kr9, kr9 = kr.filter (fun p => !inS o.key o.hi p) := ⟨_, rfl⟩
                rw [← hkr9] at hrk
                refine hrk.mono ?_
                rintro e w6 ⟨A9, c9, n9, rfl, hn9, hrow9, hk6⟩
                have hn9l : n9 ≤ n := by
                  have h1 := HP5.out.row.1
                  have h2 := List.length_filter_le (fun p => !inS o.key o.hi p) kr
                  rw [hn9, hkr9]
                  omega
                have hp6 := HP5.out.keepq hk6
                obtain ⟨hst7, ho7⟩ := hp6.stored (A' := A9) (n' := n9) (c' := c9) (kr' := kr9) (B' := B) (m' := m) (d' := d) (ever' := ever) (PL.of_row hrow9 hn9.symm) hp6.evr hp6.nil (fun k off e => .inl (by have h1 := row_new hrow9 k off e; have h2 := HS5.out.lt; exact ⟨by omega, h1.2⟩)) (fun k off e => .inr ⟨off, e⟩) (fun h => by have := HWS.out; omega) hp6.rng
                have HP7 := Lib.hid hst7
                have HS7 := Lib.hid ((HS5.out.keep hk6).only ho7 (by have := HWS.out; omega))
                obtain ⟨x0, x1, x2⟩ := hp6.box.cells
                obtain ⟨f0, f1, f2⟩ := hp6.box.free
                obtain ⟨s0', s1'⟩ := (HS5.out.keep hk6).cells
                have hbne : ¬ bx = q + 1 := by have := HWS.out; omega
                have HKR9 := Lib.hid hkr9
                clear hrk hp6 hst7 ho7 hrow9 hk6 hn9 hk5 hkr9 s0 s1
                go_wp2_with fail
                clear x0 x1 x2 f0 f1 f2 s0' s1' hbne
                generalize ((w6.setCell ⟨bx, 0, none⟩ (.slice A9 n9 c9)).setCell ⟨bx, 1, none⟩ (.slice B m d)).setCell ⟨bx, 2, none⟩ (.int .i64 lim) = V7 at *
                have hki := ps_kill HP7.out (by have := HP5.out.row.1; omega) o.key o.hi
                rw [HFF.out, ← HKR9.out] at hki
                refine hki.mono ?_
                rintro e w8 ⟨rfl, hp8, -⟩
                have HPS9 := Lib.hid hp8
                have HWY9 := HWY
                have HNN9 := HNN
                clear hki hp8 run1
                dsimp only
                go_wp2_with fail

                have HPSm := Lib.hid (HPS9.out.mono (Z' := fun _ => False) (fun _ h => h.elim))
                have hKc := (Keep.refl w8).drew
                have HBOX := Lib.hid (show ∀ W, Keep w8 W → W.cell? ⟨bx, 1, none⟩ = some (.slice B m d) from fun W hW => (HPSm.out.box.keep hW).cells.2.1)
                have hrn := fun W (hW : Keep w8 W) => rnodes_is B m d ever W ((HPSm.out.evr.below hW).more hW.size) HPSm.out.rng (by omega)
                rw [← HNN9.out] at hrn
                have htn := fun W (hW : Keep w8 W) => (tre_nodes (HPSm.out.tre.kept hW)).mono (fun e w' h => (show e = _ ∧ Keep W w' from ⟨h.1, by rw [h.2]; exact Keep.refl _⟩))
                refine seq_region (S := fun w' => Keep w8 w') [⟨0, 16384, 1461501637330902918203684832716283019655932542976⟩, ⟨1, 1461501637330902918203684832716283019655932542976, 2923003274661805836407369665432566039311865085952⟩, ⟨2, 2923003274661805836407369665432566039311865085952, 5846006549323611672814739330865132078623730171904⟩, ⟨4, 5846006549323611672814739330865132078623730172032, 11692013098647223345629478661730264157247460343808⟩, ⟨12, 17538019647970835018444217992595396235871190515712, 23384026197294446691258957323460528314494920687616⟩, ⟨4, 5846006549323611672814739330865132078623730172416, 46768052394588893382517914646921056628989841375232⟩, ⟨36, 52614058943912505055332653977786188707613571547136, 93536104789177786765035829293842113257979682750464⟩, ⟨84, 99382111338501398437850568624707245336603412922368, 187072209578355573530071658587684226515959365500928⟩, ⟨148, 216302242324973631894145355242009886909078016360448, 374144419156711147060143317175368453031918731001856⟩, ⟨260, 379990425706034758732958056506233585110542461173760, 748288838313422294120286634350736906063837462003712⟩] [(0, false), (1, false), (2, false), (3, false), (5, false), (6, false), (4, true), (7, true), (8, false), (9, false)] rfl (by kernel_rfl) (by kernel_rfl) (fun _ _ d _ _ h => by cases d <;> exact h) hKc ?_
                simp only [rowsOf, rowAt, gslot, List.map_cons, List.map_nil, List.getElem?_toArray, List.getElem?_cons_zero, List.getElem?_cons_succ]
                repeat (first
                  | (refine seq_take (v := ?_) (a' := ?_) (by rfl) ?_ ?_ ?_
                     rotate_left 2
                     · (intro w hSw; have hcs := HBOX.out w hSw; clear hSw; go_split_ands; go_simp; with_reducible rfl)
                     · (simp only [Act.put, List.setIfInBounds_toArray, List.set_cons_zero, List.set_cons_succ]; with_reducible rfl))
                  | (refine seq_skip (a' := ?_) hKc (by rfl) ?_ ?_
                     rotate_left
                     · (simp only [Act.put, List.setIfInBounds_toArray, List.set_cons_zero, List.set_cons_succ]; with_reducible rfl)))
                refine seq_callR (R := fun _ => True) (f := 20) (args := ?_) (v := ?_) (a' := ?_) (by rfl) (by rfl) (by rfl) Try.call20 ?_ ?_ ?_ ?_
                rotate_left 3
                · (go_simp; with_reducible rfl)
                · ((with_reducible refine Calls.mono (htn _ hKc) ?_)
                   rintro e w' ⟨rfl, hk⟩
                   refine ⟨?_, hKc.trans hk, trivial⟩
                   with_reducible rfl)
                · (simp only [Act.put, List.setIfInBounds_toArray, List.set_cons_zero, List.set_cons_succ]; with_reducible rfl)
                clear hKc
                intro wn hKc _
                repeat (first
                  | (refine seq_take (v := ?_) (a' := ?_) (by rfl) ?_ ?_ ?_
                     rotate_left 2
                     · (intro w hSw; have hcs := HBOX.out w hSw; clear hSw; go_split_ands; go_simp; with_reducible rfl)
                     · (simp only [Act.put, List.setIfInBounds_toArray, List.set_cons_zero, List.set_cons_succ]; with_reducible rfl))
                  | (refine seq_skip (a' := ?_) hKc (by rfl) ?_ ?_
                     rotate_left
                     · (simp only [Act.put, List.setIfInBounds_toArray, List.set_cons_zero, List.set_cons_succ]; with_reducible rfl)))
                refine seq_callR (R := fun _ => True) (f := 21) (args := ?_) (v := ?_) (a' := ?_) (by rfl) (by rfl) (by rfl) Try.call21 ?_ ?_ ?_ ?_
                rotate_left 3
                · (go_simp; with_reducible rfl)
                · ((with_reducible refine Calls.mono (hrn _ hKc) ?_)
                   rintro e w' ⟨rfl, hk⟩
                   refine ⟨?_, hKc.trans hk, trivial⟩
                   with_reducible rfl)
                · (simp only [Act.put, List.setIfInBounds_toArray, List.set_cons_zero, List.set_cons_succ]; with_reducible rfl)
                clear hKc
                intro wn hKc _
                repeat (first
                  | (refine seq_take (v := ?_) (a' := ?_) (by rfl) ?_ ?_ ?_
                     rotate_left 2
                     · (intro w hSw; have hcs := HBOX.out w hSw; clear hSw; go_split_ands; go_simp; with_reducible rfl)
                     · (simp only [Act.put, List.setIfInBounds_toArray, List.set_cons_zero, List.set_cons_succ]; with_reducible rfl))
                  | (refine seq_skip (a' := ?_) hKc (by rfl) ?_ ?_
                     rotate_left
                     · (simp only [Act.put, List.setIfInBounds_toArray, List.set_cons_zero, List.set_cons_succ]; with_reducible rfl)))
                refine seq_nil ?_
                have HNEXT := Lib.hid (show Stp W0 bt bx lim (i + 1) wn from ⟨_, _, _, _, _, _, _, _, _, _, HPSm.out.kept hKc, HWY9.out, HNN9.out, by omega, by omega⟩)
                clear hKc HBOX hrn htn
                go_wp2
                go_roundw
                case rel => exact ⟨i + 1, by go_num, by omega, HNEXT⟩
                case measure => simp [intOf]; omega
              · by_cases h2 : o.kind = 2
                · have k0 : (o.kind == 0) = false := by rw [beq_eq_false_iff_ne]; omega
                  have k1 : (o.kind == 1) = false := by rw [beq_eq_false_iff_ne]; omega
                  have k2 : (o.kind == 2) = true := by rw [beq_iff_eq]; exact h2
                  clear h2 h3 h4 h5
                  cases hvb : hasK kr o.key
                  · rw [hvb] at HCNT
                    obtain rfl : oc = 0 := HCNT.out
                    clear hvb
                    obtain ⟨x0, x1, x2⟩ := HPS.out.box.cells
                    obtain ⟨o0, o1, o2, o3⟩ := HBO4.out.cells
                    obtain ⟨s0, s1⟩ := HBS4.out.cells
                    obtain ⟨n0, n1, n2, n3⟩ := HONE.out.cells
                    dsimp only at n0 n1 n2 n3
                    go_wp2_with fail
                    clear x0 x1 x2 o0 o1 o2 o3 s0 s1 n0 n1 n2 n3
                    generalize w3.alloc (.cells #[.int .i64 0, .int .i64 os1, .int .i64 on, .int .i64 ox] 38) = V4 at *
                    generalize w3.heap.size = b1 at *

                    have hrd := rdrop_is A n c kr B m d lim o.key V4 HPS.out.row (by omega)
                    obtain ⟨kr9, hkr9⟩ : ∃ kr9, kr9 = kr.filter (fun p => !inS o.key o.key p) := ⟨_, rfl⟩
                    rw [← hkr9] at hrd
                    refine hrd.mono ?_
                    rintro e w6 ⟨A9, c9, n9, rfl, hn9, hrow9, hk6, hne9⟩
                    have hn9l : n9 ≤ n := by
                      have h1 := HPS.out.row.1
                      have h2 := List.length_filter_le (fun p => !inS o.key o.key p) kr
                      rw [hn9, hkr9]
                      omega
                    have hp6 := HPS.out.keepq hk6
                    obtain ⟨hst7, ho7⟩ := hp6.stored (A' := A9) (n' := n9) (c' := c9) (kr' := kr9) (B' := B) (m' := m) (d' := d) (ever' := ever) (PL.of_row hrow9 hn9.symm) hp6.evr hp6.nil (fun k off e => .inl (by have h1 := row_new hrow9 k off e; have h2 := HBS4.out.lt; exact ⟨by omega, h1.2⟩)) (fun k off e => .inr ⟨off, e⟩) (fun h => by have := HWS.out; omega) hp6.rng
                    have HP7 := Lib.hid hst7
                    have HO7 := Lib.hid ((HBO4.out.keep hk6).only ho7 (by have := HWS.out; omega))
                    have HN7 := Lib.hid (agat_only (HONE.out.keep hk6) ho7 (by have := HWS.out; have := HQ3.out; omega))
                    obtain ⟨x0, x1, x2⟩ := hp6.box.cells
                    obtain ⟨f0, f1, f2⟩ := hp6.box.free
                    have HKR9 := Lib.hid hkr9
                    have HW6 := Lib.hid (show V4.heap.size ≤ w6.heap.size from hk6.size)
                    clear hrd hp6 hst7 ho7 hrow9 hk6 hn9 hkr9 hne9
                    go_wp2_with fail
                    clear x0 x1 x2 f0 f1 f2
                    generalize ((w6.setCell ⟨bx, 0, none⟩ (.slice A9 n9 c9)).setCell ⟨bx, 1, none⟩ (.slice B m d)).setCell ⟨bx, 2, none⟩ (.int .i64 lim) = V7 at *
                    have HBOX := Lib.hid (show ∀ W, (OpB W q o ∧ AgAt W b1 ⟨0, os1, on, ox⟩) → W.cell? ⟨q, 1, none⟩ = some (.int .u32 o.key) ∧ W.cell? ⟨b1, 0, none⟩ = some (.int .i64 0) from fun W hW => ⟨hW.1.cells.2.1, hW.2.cells.1⟩)
                    have hdk := ps_drop (HP7.out.kept (Keep.refl V7).drew) (by have := HPS.out.row.1; omega) o.key false (by rw [HON.out]; show decide ((0 : Int) < 0) = false; decide)
                    rw [← HKR9.out] at hdk
                    refine seq_region (S := fun w' => OpB w' q o ∧ AgAt w' b1 ⟨0, os1, on, ox⟩) [⟨0, 128, 649037107316853453566312041152512⟩, ⟨0, 2048, 1298074214633706907132624082305024⟩, ⟨2, 1298074214633706907132624082305024, 2596148429267413814265248164610048⟩, ⟨5, 3245185536584267267831560205762560, 5192296858534827628530496329220096⟩, ⟨0, 8192, 10384593717069655257060992658440192⟩, ⟨16, 10384593717069655257060992658440192, 20769187434139310514121985316880384⟩, ⟨32, 20769187434139310514121985316880384, 41538374868278621028243970633760768⟩, ⟨72, 46730671726813448656774466962980864, 83076749736557242056487941267521536⟩, ⟨255, 83076749736557242056487941267521536, 16384⟩] [(0, false), (1, false), (2, false), (4, false), (5, false), (6, false), (3, true), (7, false), (8, false)] rfl (by kernel_rfl) (by kernel_rfl) (fun _ _ d _ _ h => by cases d <;> exact h) ⟨HO7.out.keep (Keep.refl V7).drew, HN7.out.keep (Keep.refl V7).drew⟩ ?_
                    simp only [rowsOf, rowAt, gslot, List.map_cons, List.map_nil, List.getElem?_toArray, List.getElem?_cons_zero, List.getElem?_cons_succ]
                    have hKc := (Keep.refl V7).drew
                    repeat (first
                      | (refine seq_take (v := ?_) (a' := ?_) (by rfl) ?_ ?_ ?_
                         rotate_left 2
                         · (intro w hSw; have hcs := HBOX.out w hSw; clear hSw; go_split_ands; go_simp; with_reducible rfl)
                         · (simp only [Act.put, List.setIfInBounds_toArray, List.set_cons_zero, List.set_cons_succ]; with_reducible rfl)))
                    refine seq_callR (R := fun w' => PSt W0 bt bx lim A9 n9 c9 kr9 B m d ever nn t kr9 (fun k => q ≤ k ∧ k < w6.heap.size) w') (f := 15) (args := ?_) (v := ?_) (a' := ?_) (by rfl) (by rfl) (by rfl) Try.call15 ?_ ?_ ?_ ?_
                    rotate_left 3
                    · (go_simp; with_reducible rfl)
                    · ((with_reducible refine Calls.mono hdk ?_)
                       rintro e w' ⟨rfl, hp, ho⟩
                       refine ⟨?_, ⟨(HO7.out.keep (Keep.refl V7).drew).only ho (fun h => h ⟨by omega, by have := HBO4.out.lt; have := HW6.out; omega⟩), agat_only (HN7.out.keep (Keep.refl V7).drew) ho (fun h => h ⟨by have := HQ3.out; omega, by have := HONE.out.lt; have := HW6.out; omega⟩)⟩, hp⟩
                       with_reducible rfl)
                    · (simp only [Act.put, List.setIfInBounds_toArray, List.set_cons_zero, List.set_cons_succ]; with_reducible rfl)
                    intro w8 hS8 hp8
                    repeat (first
                      | (refine seq_take (v := ?_) (a' := ?_) (by rfl) ?_ ?_ ?_
                         rotate_left 2
                         · (intro w hSw; have hcs := HBOX.out w hSw; clear hSw; go_split_ands; go_simp; with_reducible rfl)
                         · (simp only [Act.put, List.setIfInBounds_toArray, List.set_cons_zero, List.set_cons_succ]; with_reducible rfl)))
                    refine seq_nil ?_
                    have HPS9 := Lib.hid hp8
                    have HWY9 := HWY
                    have HNN9 := HNN
                    clear hKc HBOX hdk hS8 hp8
                    go_wp2_with fail

                    have HPSm := Lib.hid (HPS9.out.mono (Z' := fun _ => False) (fun _ h => h.elim))
                    have hKc := (Keep.refl w8).drew
                    have HBOX := Lib.hid (show ∀ W, Keep w8 W → W.cell? ⟨bx, 1, none⟩ = some (.slice B m d) from fun W hW => (HPSm.out.box.keep hW).cells.2.1)
                    have hrn := fun W (hW : Keep w8 W) => rnodes_is B m d ever W ((HPSm.out.evr.below hW).more hW.size) HPSm.out.rng (by omega)
                    rw [← HNN9.out] at hrn
                    have htn := fun W (hW : Keep w8 W) => (tre_nodes (HPSm.out.tre.kept hW)).mono (fun e w' h => (show e = _ ∧ Keep W w' from ⟨h.1, by rw [h.2]; exact Keep.refl _⟩))
                    refine seq_region (S := fun w' => Keep w8 w') [⟨0, 16384, 1461501637330902918203684832716283019655932542976⟩, ⟨1, 1461501637330902918203684832716283019655932542976, 2923003274661805836407369665432566039311865085952⟩, ⟨2, 2923003274661805836407369665432566039311865085952, 5846006549323611672814739330865132078623730171904⟩, ⟨4, 5846006549323611672814739330865132078623730172032, 11692013098647223345629478661730264157247460343808⟩, ⟨12, 17538019647970835018444217992595396235871190515712, 23384026197294446691258957323460528314494920687616⟩, ⟨4, 5846006549323611672814739330865132078623730172416, 46768052394588893382517914646921056628989841375232⟩, ⟨36, 52614058943912505055332653977786188707613571547136, 93536104789177786765035829293842113257979682750464⟩, ⟨84, 99382111338501398437850568624707245336603412922368, 187072209578355573530071658587684226515959365500928⟩, ⟨148, 216302242324973631894145355242009886909078016360448, 374144419156711147060143317175368453031918731001856⟩, ⟨260, 379990425706034758732958056506233585110542461173760, 748288838313422294120286634350736906063837462003712⟩] [(0, false), (1, false), (2, false), (3, false), (5, false), (6, false), (4, true), (7, true), (8, false), (9, false)] rfl (by kernel_rfl) (by kernel_rfl) (fun _ _ d _ _ h => by cases d <;> exact h) hKc ?_
                    simp only [rowsOf, rowAt, gslot, List.map_cons, List.map_nil, List.getElem?_toArray, List.getElem?_cons_zero, List.getElem?_cons_succ]
                    repeat (first
                      | (refine seq_take (v := ?_) (a' := ?_) (by rfl) ?_ ?_ ?_
                         rotate_left 2
                         · (intro w hSw; have hcs := HBOX.out w hSw; clear hSw; go_split_ands; go_simp; with_reducible rfl)
                         · (simp only [Act.put, List.setIfInBounds_toArray, List.set_cons_zero, List.set_cons_succ]; with_reducible rfl))
                      | (refine seq_skip (a' := ?_) hKc (by rfl) ?_ ?_
                         rotate_left
                         · (simp only [Act.put, List.setIfInBounds_toArray, List.set_cons_zero, List.set_cons_succ]; with_reducible rfl)))
                    refine seq_callR (R := fun _ => True) (f := 20) (args := ?_) (v := ?_) (a' := ?_) (by rfl) (by rfl) (by rfl) Try.call20 ?_ ?_ ?_ ?_
                    rotate_left 3
                    · (go_simp; with_reducible rfl)
                    · ((with_reducible refine Calls.mono (htn _ hKc) ?_)
                       rintro e w' ⟨rfl, hk⟩
                       refine ⟨?_, hKc.trans hk, trivial⟩
                       with_reducible rfl)
                    · (simp only [Act.put, List.setIfInBounds_toArray, List.set_cons_zero, List.set_cons_succ]; with_reducible rfl)
                    clear hKc
                    intro wn hKc _
                    repeat (first
                      | (refine seq_take (v := ?_) (a' := ?_) (by rfl) ?_ ?_ ?_
                         rotate_left 2
                         · (intro w hSw; have hcs := HBOX.out w hSw; clear hSw; go_split_ands; go_simp; with_reducible rfl)
                         · (simp only [Act.put, List.setIfInBounds_toArray, List.set_cons_zero, List.set_cons_succ]; with_reducible rfl))
                      | (refine seq_skip (a' := ?_) hKc (by rfl) ?_ ?_
                         rotate_left
                         · (simp only [Act.put, List.setIfInBounds_toArray, List.set_cons_zero, List.set_cons_succ]; with_reducible rfl)))
                    refine seq_callR (R := fun _ => True) (f := 21) (args := ?_) (v := ?_) (a' := ?_) (by rfl) (by rfl) (by rfl) Try.call21 ?_ ?_ ?_ ?_
                    rotate_left 3
                    · (go_simp; with_reducible rfl)
                    · ((with_reducible refine Calls.mono (hrn _ hKc) ?_)
                       rintro e w' ⟨rfl, hk⟩
                       refine ⟨?_, hKc.trans hk, trivial⟩
                       with_reducible rfl)
                    · (simp only [Act.put, List.setIfInBounds_toArray, List.set_cons_zero, List.set_cons_succ]; with_reducible rfl)
                    clear hKc
                    intro wn hKc _
                    repeat (first
                      | (refine seq_take (v := ?_) (a' := ?_) (by rfl) ?_ ?_ ?_
                         rotate_left 2
                         · (intro w hSw; have hcs := HBOX.out w hSw; clear hSw; go_split_ands; go_simp; with_reducible rfl)
                         · (simp only [Act.put, List.setIfInBounds_toArray, List.set_cons_zero, List.set_cons_succ]; with_reducible rfl))
                      | (refine seq_skip (a' := ?_) hKc (by rfl) ?_ ?_
                         rotate_left
                         · (simp only [Act.put, List.setIfInBounds_toArray, List.set_cons_zero, List.set_cons_succ]; with_reducible rfl)))
                    refine seq_nil ?_
                    have HNEXT := Lib.hid (show Stp W0 bt bx lim (i + 1) wn from ⟨_, _, _, _, _, _, _, _, _, _, HPSm.out.kept hKc, HWY9.out, HNN9.out, by omega, by omega⟩)
                    clear hKc HBOX hrn htn
                    go_wp2
                    go_roundw
                    case rel => exact ⟨i + 1, by go_num, by omega, HNEXT⟩
                    case measure => simp [intOf]; omega
                  · rw [hvb] at HCNT
                    obtain rfl : oc = 1 := HCNT.out
                    clear hvb
                    obtain ⟨x0, x1, x2⟩ := HPS.out.box.cells
                    obtain ⟨o0, o1, o2, o3⟩ := HBO4.out.cells
                    obtain ⟨s0, s1⟩ := HBS4.out.cells
                    obtain ⟨n0, n1, n2, n3⟩ := HONE.out.cells
                    dsimp only at n0 n1 n2 n3
                    go_wp2_with fail
                    clear x0 x1 x2 o0 o1 o2 o3 s0 s1 n0 n1 n2 n3
                    generalize w3.alloc (.cells #[.int .i64 1, .int .i64 os1, .int .i64 on, .int .i64 ox] 38) = V4 at *
                    generalize w3.heap.size = b1 at *

                    have hrd := rdrop_is A n c kr B m d lim o.key V4 HPS.out.row (by omega)
                    obtain ⟨kr9, hkr9⟩ : ∃ kr9, kr9 = kr.filter (fun p => !inS o.key o.key p) := ⟨_, rfl⟩
                    rw [← hkr9] at hrd
                    refine hrd.mono ?_
                    rintro e w6 ⟨A9, c9, n9, rfl, hn9, hrow9, hk6, hne9⟩
                    have hn9l : n9 ≤ n := by
                      have h1 := HPS.out.row.1
                      have h2 := List.length_filter_le (fun p => !inS o.key o.key p) kr
                      rw [hn9, hkr9]
                      omega
                    have hp6 := HPS.out.keepq hk6
                    obtain ⟨hst7, ho7⟩ := hp6.stored (A' := A9) (n' := n9) (c' := c9) (kr' := kr9) (B' := B) (m' := m) (d' := d) (ever' := ever) (PL.of_row hrow9 hn9.symm) hp6.evr hp6.nil (fun k off e => .inl (by have h1 := row_new hrow9 k off e; have h2 := HBS4.out.lt; exact ⟨by omega, h1.2⟩)) (fun k off e => .inr ⟨off, e⟩) (fun h => by have := HWS.out; omega) hp6.rng
                    have HP7 := Lib.hid hst7
                    have HO7 := Lib.hid ((HBO4.out.keep hk6).only ho7 (by have := HWS.out; omega))
                    have HN7 := Lib.hid (agat_only (HONE.out.keep hk6) ho7 (by have := HWS.out; have := HQ3.out; omega))
                    obtain ⟨x0, x1, x2⟩ := hp6.box.cells
                    obtain ⟨f0, f1, f2⟩ := hp6.box.free
                    have HKR9 := Lib.hid hkr9
                    have HW6 := Lib.hid (show V4.heap.size ≤ w6.heap.size from hk6.size)
                    clear hrd hp6 hst7 ho7 hrow9 hk6 hn9 hkr9 hne9
                    go_wp2_with fail
                    clear x0 x1 x2 f0 f1 f2
                    generalize ((w6.setCell ⟨bx, 0, none⟩ (.slice A9 n9 c9)).setCell ⟨bx, 1, none⟩ (.slice B m d)).setCell ⟨bx, 2, none⟩ (.int .i64 lim) = V7 at *
                    have HBOX := Lib.hid (show ∀ W, (OpB W q o ∧ AgAt W b1 ⟨1, os1, on, ox⟩) → W.cell? ⟨q, 1, none⟩ = some (.int .u32 o.key) ∧ W.cell? ⟨b1, 0, none⟩ = some (.int .i64 1) from fun W hW => ⟨hW.1.cells.2.1, hW.2.cells.1⟩)
                    have hdk := ps_drop (HP7.out.kept (Keep.refl V7).drew) (by have := HPS.out.row.1; omega) o.key true (by rw [HON.out]; show decide ((0 : Int) < 1) = true; decide)
                    rw [← HKR9.out] at hdk
                    refine seq_region (S := fun w' => OpB w' q o ∧ AgAt w' b1 ⟨1, os1, on, ox⟩) [⟨0, 128, 649037107316853453566312041152512⟩, ⟨0, 2048, 1298074214633706907132624082305024⟩, ⟨2, 1298074214633706907132624082305024, 2596148429267413814265248164610048⟩, ⟨5, 3245185536584267267831560205762560, 5192296858534827628530496329220096⟩, ⟨0, 8192, 10384593717069655257060992658440192⟩, ⟨16, 10384593717069655257060992658440192, 20769187434139310514121985316880384⟩, ⟨32, 20769187434139310514121985316880384, 41538374868278621028243970633760768⟩, ⟨72, 46730671726813448656774466962980864, 83076749736557242056487941267521536⟩, ⟨255, 83076749736557242056487941267521536, 16384⟩] [(0, false), (1, false), (2, false), (4, false), (5, false), (6, false), (3, true), (7, false), (8, false)] rfl (by kernel_rfl) (by kernel_rfl) (fun _ _ d _ _ h => by cases d <;> exact h) ⟨HO7.out.keep (Keep.refl V7).drew, HN7.out.keep (Keep.refl V7).drew⟩ ?_
                    simp only [rowsOf, rowAt, gslot, List.map_cons, List.map_nil, List.getElem?_toArray, List.getElem?_cons_zero, List.getElem?_cons_succ]
                    have hKc := (Keep.refl V7).drew
                    repeat (first
                      | (refine seq_take (v := ?_) (a' := ?_) (by rfl) ?_ ?_ ?_
                         rotate_left 2
                         · (intro w hSw; have hcs := HBOX.out w hSw; clear hSw; go_split_ands; go_simp; with_reducible rfl)
                         · (simp only [Act.put, List.setIfInBounds_toArray, List.set_cons_zero, List.set_cons_succ]; with_reducible rfl)))
                    refine seq_callR (R := fun w' => PSt W0 bt bx lim A9 n9 c9 kr9 B m d ever nn t kr9 (fun k => q ≤ k ∧ k < w6.heap.size) w') (f := 15) (args := ?_) (v := ?_) (a' := ?_) (by rfl) (by rfl) (by rfl) Try.call15 ?_ ?_ ?_ ?_
                    rotate_left 3
                    · (go_simp; with_reducible rfl)
                    · ((with_reducible refine Calls.mono hdk ?_)
                       rintro e w' ⟨rfl, hp, ho⟩
                       refine ⟨?_, ⟨(HO7.out.keep (Keep.refl V7).drew).only ho (fun h => h ⟨by omega, by have := HBO4.out.lt; have := HW6.out; omega⟩), agat_only (HN7.out.keep (Keep.refl V7).drew) ho (fun h => h ⟨by have := HQ3.out; omega, by have := HONE.out.lt; have := HW6.out; omega⟩)⟩, hp⟩
                       with_reducible rfl)
                    · (simp only [Act.put, List.setIfInBounds_toArray, List.set_cons_zero, List.set_cons_succ]; with_reducible rfl)
                    intro w8 hS8 hp8
                    repeat (first
                      | (refine seq_take (v := ?_) (a' := ?_) (by rfl) ?_ ?_ ?_
                         rotate_left 2
                         · (intro w hSw; have hcs := HBOX.out w hSw; clear hSw; go_split_ands; go_simp; with_reducible rfl)
                         · (simp only [Act.put, List.setIfInBounds_toArray, List.set_cons_zero, List.set_cons_succ]; with_reducible rfl)))
                    refine seq_nil ?_
                    have HPS9 := Lib.hid hp8
                    have HWY9 := HWY
                    have HNN9 := HNN
                    clear hKc HBOX hdk hS8 hp8
                    go_wp2_with fail

                    have HPSm := Lib.hid (HPS9.out.mono (Z' := fun _ => False) (fun _ h => h.elim))
                    have hKc := (Keep.refl w8).drew
                    have HBOX := Lib.hid (show ∀ W, Keep w8 W → W.cell? ⟨bx, 1, none⟩ = some (.slice B m d) from fun W hW => (HPSm.out.box.keep hW).cells.2.1)
                    have hrn := fun W (hW : Keep w8 W) => rnodes_is B m d ever W ((HPSm.out.evr.below hW).more hW.size) HPSm.out.rng (by omega)
                    rw [← HNN9.out] at hrn
                    have htn := fun W (hW : Keep w8 W) => (tre_nodes (HPSm.out.tre.kept hW)).mono (fun e w' h => (show e = _ ∧ Keep W w' from ⟨h.1, by rw [h.2]; exact Keep.refl _⟩))
                    refine seq_region (S := fun w' => Keep w8 w') [⟨0, 16384, 1461501637330902918203684832716283019655932542976⟩, ⟨1, 1461501637330902918203684832716283019655932542976, 2923003274661805836407369665432566039311865085952⟩, ⟨2, 2923003274661805836407369665432566039311865085952, 5846006549323611672814739330865132078623730171904⟩, ⟨4, 5846006549323611672814739330865132078623730172032, 11692013098647223345629478661730264157247460343808⟩, ⟨12, 17538019647970835018444217992595396235871190515712, 23384026197294446691258957323460528314494920687616⟩, ⟨4, 5846006549323611672814739330865132078623730172416, 46768052394588893382517914646921056628989841375232⟩, ⟨36, 52614058943912505055332653977786188707613571547136, 93536104789177786765035829293842113257979682750464⟩, ⟨84, 99382111338501398437850568624707245336603412922368, 187072209578355573530071658587684226515959365500928⟩, ⟨148, 216302242324973631894145355242009886909078016360448, 374144419156711147060143317175368453031918731001856⟩, ⟨260, 379990425706034758732958056506233585110542461173760, 748288838313422294120286634350736906063837462003712⟩] [(0, false), (1, false), (2, false), (3, false), (5, false), (6, false), (4, true), (7, true), (8, false), (9, false)] rfl (by kernel_rfl) (by kernel_rfl) (fun _ _ d _ _ h => by cases d <;> exact h) hKc ?_
                    simp only [rowsOf, rowAt, gslot, List.map_cons, List.map_nil, List.getElem?_toArray, List.getElem?_cons_zero, List.getElem?_cons_succ]
                    repeat (first
                      | (refine seq_take (v := ?_) (a' := ?_) (by rfl) ?_ ?_ ?_
                         rotate_left 2
                         · (intro w hSw; have hcs := HBOX.out w hSw; clear hSw; go_split_ands; go_simp; with_reducible rfl)
                         · (simp only [Act.put, List.setIfInBounds_toArray, List.set_cons_zero, List.set_cons_succ]; with_reducible rfl))
                      | (refine seq_skip (a' := ?_) hKc (by rfl) ?_ ?_
                         rotate_left
                         · (simp only [Act.put, List.setIfInBounds_toArray, List.set_cons_zero, List.set_cons_succ]; with_reducible rfl)))
                    refine seq_callR (R := fun _ => True) (f := 20) (args := ?_) (v := ?_) (a' := ?_) (by rfl) (by rfl) (by rfl) Try.call20 ?_ ?_ ?_ ?_
                    rotate_left 3
                    · (go_simp; with_reducible rfl)
                    · ((with_reducible refine Calls.mono (htn _ hKc) ?_)
                       rintro e w' ⟨rfl, hk⟩
                       refine ⟨?_, hKc.trans hk, trivial⟩
                       with_reducible rfl)
                    · (simp only [Act.put, List.setIfInBounds_toArray, List.set_cons_zero, List.set_cons_succ]; with_reducible rfl)
                    clear hKc
                    intro wn hKc _
                    repeat (first
                      | (refine seq_take (v := ?_) (a' := ?_) (by rfl) ?_ ?_ ?_
                         rotate_left 2
                         · (intro w hSw; have hcs := HBOX.out w hSw; clear hSw; go_split_ands; go_simp; with_reducible rfl)
                         · (simp only [Act.put, List.setIfInBounds_toArray, List.set_cons_zero, List.set_cons_succ]; with_reducible rfl))
                      | (refine seq_skip (a' := ?_) hKc (by rfl) ?_ ?_
                         rotate_left
                         · (simp only [Act.put, List.setIfInBounds_toArray, List.set_cons_zero, List.set_cons_succ]; with_reducible rfl)))
                    refine seq_callR (R := fun _ => True) (f := 21) (args := ?_) (v := ?_) (a' := ?_) (by rfl) (by rfl) (by rfl) Try.call21 ?_ ?_ ?_ ?_
                    rotate_left 3
                    · (go_simp; with_reducible rfl)
                    · ((with_reducible refine Calls.mono (hrn _ hKc) ?_)
                       rintro e w' ⟨rfl, hk⟩
                       refine ⟨?_, hKc.trans hk, trivial⟩
                       with_reducible rfl)
                    · (simp only [Act.put, List.setIfInBounds_toArray, List.set_cons_zero, List.set_cons_succ]; with_reducible rfl)
                    clear hKc
                    intro wn hKc _
                    repeat (first
                      | (refine seq_take (v := ?_) (a' := ?_) (by rfl) ?_ ?_ ?_
                         rotate_left 2
                         · (intro w hSw; have hcs := HBOX.out w hSw; clear hSw; go_split_ands; go_simp; with_reducible rfl)
                         · (simp only [Act.put, List.setIfInBounds_toArray, List.set_cons_zero, List.set_cons_succ]; with_reducible rfl))
                      | (refine seq_skip (a' := ?_) hKc (by rfl) ?_ ?_
                         rotate_left
                         · (simp only [Act.put, List.setIfInBounds_toArray, List.set_cons_zero, List.set_cons_succ]; with_reducible rfl)))
                    refine seq_nil ?_
                    have HNEXT := Lib.hid (show Stp W0 bt bx lim (i + 1) wn from ⟨_, _, _, _, _, _, _, _, _, _, HPSm.out.kept hKc, HWY9.out, HNN9.out, by omega, by omega⟩)
                    clear hKc HBOX hrn htn
                    go_wp2
                    go_roundw
                    case rel => exact ⟨i + 1, by go_num, by omega, HNEXT⟩
                    case measure => simp [intOf]; omega
                · by_cases h01 : o.kind = 0 ∨ o.kind = 1
                  · rcases h01 with h01 | h01
                    · have k0 : (o.kind == 0) = true := by rw [beq_iff_eq]; exact h01
                      clear h01 h2 h3 h4 h5
                      obtain ⟨x0, x1, x2⟩ := HPS.out.box.cells
                      obtain ⟨o0, o1, o2, o3⟩ := HBO4.out.cells
                      obtain ⟨s0, s1⟩ := HBS4.out.cells
                      obtain ⟨n0, n1, n2, n3⟩ := HONE.out.cells
                      dsimp only at n0 n1 n2 n3
                      go_wp2_with fail
                      clear x0 x1 x2 o0 o1 o2 o3 s0 s1 n0 n1 n2 n3
                      generalize w3.alloc (.cells #[.int .i64 oc, .int .i64 os1, .int .i64 on, .int .i64 ox] 38) = V4 at *
                      generalize w3.heap.size = b1 at *

                      have hkr0 := HOK.out.1
                      have hlack : lack 32 0 o.key t = lk ever.reverse o.key 32 := HWY.out o.key hkr0.1 hkr0.2
                      have hndc : nd (o.key :: ever.reverse) = nn + lack 32 0 o.key t := by rw [hlack, HNN.out]; rfl
                      by_cases hroom : nn + lack 32 0 o.key t ≤ lim
                      · have hrp := rput_yes V4 A n c kr HPS.out.row (by omega) HRI.out B m d ever lim o.key o.val HPS.out.evr HPS.out.nil (by omega) HPS.out.rng hkr0 (by rw [hndc]; exact_mod_cast hroom)
                        obtain ⟨kr9, hkr9⟩ : ∃ kr9, kr9 = insK o.key o.val kr := ⟨_, rfl⟩
                        rw [← hkr9] at hrp
                        refine hrp.mono ?_
                        rintro e w5 ⟨A9, c9, n9, B9, d9, rfl, hn9, hpl9, hev9, hnl9, hfa, hfb, hk5⟩
                        have hn9l : n9 ≤ n + 1 := by
                          have h1 := HPS.out.row.1
                          have h2 := insK_length o.key o.val kr
                          rw [hn9, hkr9]
                          omega
                        have hp5 := HPS.out.keepq hk5
                        have hqv : q + 2 ≤ b1 ∧ b1 < V4.heap.size := ⟨HQ3.out, HONE.out.lt⟩
                        obtain ⟨hst7, ho7⟩ := hp5.stored (A' := A9) (n' := n9) (c' := c9) (kr' := kr9) (B' := B9) (m' := m + 1) (d' := d9) (ever' := ever ++ [o.key]) hpl9 hev9 hnl9
                          (fun k off e => .inl (by have h1 := hfa k off e; exact ⟨by omega, by omega⟩)) (fun k off e => .inl (by have h1 := hfb k off e; exact ⟨by omega, by omega⟩)) (fun h => by have := HWS.out; omega) (fun z hz => by
                            rcases List.mem_append.1 hz with h | h
                            · exact HPS.out.rng z h
                            · simp at h; subst h; exact hkr0)
                        have HP7 := Lib.hid (hst7.kept ((Keep.refl _).alloc (.cells #[.slice A9 n9 c9, .slice B9 (m + 1) d9, .int .i64 lim] 31)))
                        have hoc := HBO4.out.keep hk5
                        obtain ⟨x0, x1, x2⟩ := hp5.box.cells
                        obtain ⟨f0, f1, f2⟩ := hp5.box.free
                        have hbl5 := hp5.box.lt
                        have hol5 := hoc.lt
                        obtain ⟨o0, o1, o2, o3⟩ := hoc.cells
                        have hbne : ¬ bx = q := by have := HWS.out; omega
                        have hbne2 : ¬ q = bx := fun h => hbne h.symm
                        have HKR9 := Lib.hid hkr9
                        clear hrp hp5 hst7 ho7 hpl9 hev9 hfa hfb hk5 hn9 hkr9 hnl9 hqv hoc
                        dsimp only
                        go_wp2_with fail
                        clear x0 x1 x2 f0 f1 f2 o0 o1 o2 o3 hbl5 hol5
                        generalize (((w5.setCell ⟨bx, 0, none⟩ (.slice A9 n9 c9)).setCell ⟨bx, 1, none⟩ (.slice B9 (m + 1) d9)).setCell ⟨bx, 2, none⟩ (.int .i64 lim)).alloc (.cells #[.slice A9 n9 c9, .slice B9 (m + 1) d9, .int .i64 lim] 31) = V7 at *
                        have hpt := ps_put HP7.out (by have := HPS.out.row.1; omega) (key := o.key) (v := o.val) hkr0.1 (by omega) HOK.out.2.2 hroom
                        rw [← HKR9.out] at hpt
                        refine hpt.mono ?_
                        rintro e w8 ⟨rfl, hp8, -⟩
                        have HPS9 := Lib.hid hp8
                        have HWY9 := Lib.hid (show Ways (grow 32 0 o.key nn t) (ever ++ [o.key]).reverse from by
                          rw [show (ever ++ [o.key]).reverse = o.key :: ever.reverse from by simp]
                          exact HWY.out.put o.key nn hkr0.1 hkr0.2)
                        obtain ⟨nn9, hnn9⟩ : ∃ nn9, nn9 = nn + lack 32 0 o.key t := ⟨_, rfl⟩
                        rw [← hnn9] at HPS9
                        have HNN9 := Lib.hid (show nn9 = nd (ever ++ [o.key]).reverse from by
                          rw [show (ever ++ [o.key]).reverse = o.key :: ever.reverse from by simp, hndc, hnn9])
                        clear hpt hp8 hlack hndc hnn9 hroom hkr0
                        go_wp2_with fail
                        have HPSm := Lib.hid (HPS9.out.mono (Z' := fun _ => False) (fun _ h => h.elim))
                        have hKc := (Keep.refl w8).drew
                        have HBOX := Lib.hid (show ∀ W, Keep w8 W → W.cell? ⟨bx, 1, none⟩ = some (.slice B9 (m + 1) d9) from fun W hW => (HPSm.out.box.keep hW).cells.2.1)
                        have hrn := fun W (hW : Keep w8 W) => rnodes_is B9 (m + 1) d9 (ever ++ [o.key]) W ((HPSm.out.evr.below hW).more hW.size) HPSm.out.rng (by omega)
                        rw [← HNN9.out] at hrn
                        have htn := fun W (hW : Keep w8 W) => (tre_nodes (HPSm.out.tre.kept hW)).mono (fun e w' h => (show e = _ ∧ Keep W w' from ⟨h.1, by rw [h.2]; exact Keep.refl _⟩))
                        refine seq_region (S := fun w' => Keep w8 w') [⟨0, 16384, 1461501637330902918203684832716283019655932542976⟩, ⟨1, 1461501637330902918203684832716283019655932542976, 2923003274661805836407369665432566039311865085952⟩, ⟨2, 2923003274661805836407369665432566039311865085952, 5846006549323611672814739330865132078623730171904⟩, ⟨4, 5846006549323611672814739330865132078623730172032, 11692013098647223345629478661730264157247460343808⟩, ⟨12, 17538019647970835018444217992595396235871190515712, 23384026197294446691258957323460528314494920687616⟩, ⟨4, 5846006549323611672814739330865132078623730172416, 46768052394588893382517914646921056628989841375232⟩, ⟨36, 52614058943912505055332653977786188707613571547136, 93536104789177786765035829293842113257979682750464⟩, ⟨84, 99382111338501398437850568624707245336603412922368, 187072209578355573530071658587684226515959365500928⟩, ⟨148, 216302242324973631894145355242009886909078016360448, 374144419156711147060143317175368453031918731001856⟩, ⟨260, 379990425706034758732958056506233585110542461173760, 748288838313422294120286634350736906063837462003712⟩] [(0, false), (1, false), (2, false), (3, false), (5, false), (6, false), (4, true), (7, true), (8, false), (9, false)] rfl (by kernel_rfl) (by kernel_rfl) (fun _ _ d _ _ h => by cases d <;> exact h) hKc ?_
                        simp only [rowsOf, rowAt, gslot, List.map_cons, List.map_nil, List.getElem?_toArray, List.getElem?_cons_zero, List.getElem?_cons_succ]
                        repeat (first
                          | (refine seq_take (v := ?_) (a' := ?_) (by rfl) ?_ ?_ ?_
                             rotate_left 2
                             · (intro w hSw; have hcs := HBOX.out w hSw; clear hSw; go_split_ands; go_simp; with_reducible rfl)
                             · (simp only [Act.put, List.setIfInBounds_toArray, List.set_cons_zero, List.set_cons_succ]; with_reducible rfl))
                          | (refine seq_skip (a' := ?_) hKc (by rfl) ?_ ?_
                             rotate_left
                             · (simp only [Act.put, List.setIfInBounds_toArray, List.set_cons_zero, List.set_cons_succ]; with_reducible rfl)))
                        refine seq_callR (R := fun _ => True) (f := 20) (args := ?_) (v := ?_) (a' := ?_) (by rfl) (by rfl) (by rfl) Try.call20 ?_ ?_ ?_ ?_
                        rotate_left 3
                        · (go_simp; with_reducible rfl)
                        · ((with_reducible refine Calls.mono (htn _ hKc) ?_)
                           rintro e w' ⟨rfl, hk⟩
                           refine ⟨?_, hKc.trans hk, trivial⟩
                           with_reducible rfl)
                        · (simp only [Act.put, List.setIfInBounds_toArray, List.set_cons_zero, List.set_cons_succ]; with_reducible rfl)
                        clear hKc
                        intro wn hKc _
                        repeat (first
                          | (refine seq_take (v := ?_) (a' := ?_) (by rfl) ?_ ?_ ?_
                             rotate_left 2
                             · (intro w hSw; have hcs := HBOX.out w hSw; clear hSw; go_split_ands; go_simp; with_reducible rfl)
                             · (simp only [Act.put, List.setIfInBounds_toArray, List.set_cons_zero, List.set_cons_succ]; with_reducible rfl))
                          | (refine seq_skip (a' := ?_) hKc (by rfl) ?_ ?_
                             rotate_left
                             · (simp only [Act.put, List.setIfInBounds_toArray, List.set_cons_zero, List.set_cons_succ]; with_reducible rfl)))
                        refine seq_callR (R := fun _ => True) (f := 21) (args := ?_) (v := ?_) (a' := ?_) (by rfl) (by rfl) (by rfl) Try.call21 ?_ ?_ ?_ ?_
                        rotate_left 3
                        · (go_simp; with_reducible rfl)
                        · ((with_reducible refine Calls.mono (hrn _ hKc) ?_)
                           rintro e w' ⟨rfl, hk⟩
                           refine ⟨?_, hKc.trans hk, trivial⟩
                           with_reducible rfl)
                        · (simp only [Act.put, List.setIfInBounds_toArray, List.set_cons_zero, List.set_cons_succ]; with_reducible rfl)
                        clear hKc
                        intro wn hKc _
                        repeat (first
                          | (refine seq_take (v := ?_) (a' := ?_) (by rfl) ?_ ?_ ?_
                             rotate_left 2
                             · (intro w hSw; have hcs := HBOX.out w hSw; clear hSw; go_split_ands; go_simp; with_reducible rfl)
                             · (simp only [Act.put, List.setIfInBounds_toArray, List.set_cons_zero, List.set_cons_succ]; with_reducible rfl))
                          | (refine seq_skip (a' := ?_) hKc (by rfl) ?_ ?_
                             rotate_left
                             · (simp only [Act.put, List.setIfInBounds_toArray, List.set_cons_zero, List.set_cons_succ]; with_reducible rfl)))
                        refine seq_nil ?_
                        have HNEXT := Lib.hid (show Stp W0 bt bx lim (i + 1) wn from ⟨_, _, _, _, _, _, _, _, _, _, HPSm.out.kept hKc, HWY9.out, HNN9.out, by omega, by omega⟩)
                        clear hKc HBOX hrn htn
                        go_wp2
                        go_roundw
                        case rel => exact ⟨i + 1, by go_num, by omega, HNEXT⟩
                        case measure => simp [intOf]; omega
                      · have hrp := rput_no A n c B m d ever lim o.key o.val V4 HPS.out.evr HPS.out.nil (by omega) HPS.out.rng hkr0 (by rw [hndc]; exact_mod_cast Nat.lt_of_not_le hroom)
                        refine hrp.mono ?_
                        rintro e w5 ⟨rfl, hk5⟩
                        have hp5 := HPS.out.keepq hk5
                        obtain ⟨hst7, ho7⟩ := hp5.stored (A' := A) (n' := n) (c' := c) (kr' := kr) (B' := B) (m' := m) (d' := d) (ever' := ever) hp5.row hp5.evr hp5.nil
                          (fun k off e => .inr ⟨off, e⟩) (fun k off e => .inr ⟨off, e⟩) (fun h => by have := HWS.out; omega) hp5.rng
                        have HP7 := Lib.hid (hst7.kept ((Keep.refl _).alloc (.cells #[.slice A n c, .slice B m d, .int .i64 lim] 31)))
                        have hoc := HBO4.out.keep hk5
                        obtain ⟨x0, x1, x2⟩ := hp5.box.cells
                        obtain ⟨f0, f1, f2⟩ := hp5.box.free
                        have hbl5 := hp5.box.lt
                        have hol5 := hoc.lt
                        obtain ⟨o0, o1, o2, o3⟩ := hoc.cells
                        have hbne : ¬ bx = q := by have := HWS.out; omega
                        have hbne2 : ¬ q = bx := fun h => hbne h.symm
                        clear hrp hp5 hst7 ho7 hk5 hoc
                        dsimp only
                        go_wp2_with fail
                        clear x0 x1 x2 f0 f1 f2 o0 o1 o2 o3 hbl5 hol5
                        generalize (((w5.setCell ⟨bx, 0, none⟩ (.slice A n c)).setCell ⟨bx, 1, none⟩ (.slice B m d)).setCell ⟨bx, 2, none⟩ (.int .i64 lim)).alloc (.cells #[.slice A n c, .slice B m d, .int .i64 lim] 31) = V7 at *
                        refine (ps_putno HP7.out (key := o.key) (v := o.val) hkr0.1 (by omega) (Nat.lt_of_not_le hroom)).mono ?_
                        rintro e w8 ⟨rfl, hk8⟩
                        have HPS9 := Lib.hid (HP7.out.kept hk8)
                        have HWY9 := HWY
                        have HNN9 := HNN
                        clear hk8 hlack hndc hroom hkr0
                        go_wp2_with fail
                        have HPSm := Lib.hid (HPS9.out.mono (Z' := fun _ => False) (fun _ h => h.elim))
                        have hKc := (Keep.refl w8).drew
                        have HBOX := Lib.hid (show ∀ W, Keep w8 W → W.cell? ⟨bx, 1, none⟩ = some (.slice B m d) from fun W hW => (HPSm.out.box.keep hW).cells.2.1)
                        have hrn := fun W (hW : Keep w8 W) => rnodes_is B m d ever W ((HPSm.out.evr.below hW).more hW.size) HPSm.out.rng (by omega)
                        rw [← HNN9.out] at hrn
                        have htn := fun W (hW : Keep w8 W) => (tre_nodes (HPSm.out.tre.kept hW)).mono (fun e w' h => (show e = _ ∧ Keep W w' from ⟨h.1, by rw [h.2]; exact Keep.refl _⟩))
                        refine seq_region (S := fun w' => Keep w8 w') [⟨0, 16384, 1461501637330902918203684832716283019655932542976⟩, ⟨1, 1461501637330902918203684832716283019655932542976, 2923003274661805836407369665432566039311865085952⟩, ⟨2, 2923003274661805836407369665432566039311865085952, 5846006549323611672814739330865132078623730171904⟩, ⟨4, 5846006549323611672814739330865132078623730172032, 11692013098647223345629478661730264157247460343808⟩, ⟨12, 17538019647970835018444217992595396235871190515712, 23384026197294446691258957323460528314494920687616⟩, ⟨4, 5846006549323611672814739330865132078623730172416, 46768052394588893382517914646921056628989841375232⟩, ⟨36, 52614058943912505055332653977786188707613571547136, 93536104789177786765035829293842113257979682750464⟩, ⟨84, 99382111338501398437850568624707245336603412922368, 187072209578355573530071658587684226515959365500928⟩, ⟨148, 216302242324973631894145355242009886909078016360448, 374144419156711147060143317175368453031918731001856⟩, ⟨260, 379990425706034758732958056506233585110542461173760, 748288838313422294120286634350736906063837462003712⟩] [(0, false), (1, false), (2, false), (3, false), (5, false), (6, false), (4, true), (7, true), (8, false), (9, false)] rfl (by kernel_rfl) (by kernel_rfl) (fun _ _ d _ _ h => by cases d <;> exact h) hKc ?_
                        simp only [rowsOf, rowAt, gslot, List.map_cons, List.map_nil, List.getElem?_toArray, List.getElem?_cons_zero, List.getElem?_cons_succ]
                        repeat (first
                          | (refine seq_take (v := ?_) (a' := ?_) (by rfl) ?_ ?_ ?_
                             rotate_left 2
                             · (intro w hSw; have hcs := HBOX.out w hSw; clear hSw; go_split_ands; go_simp; with_reducible rfl)
                             · (simp only [Act.put, List.setIfInBounds_toArray, List.set_cons_zero, List.set_cons_succ]; with_reducible rfl))
                          | (refine seq_skip (a' := ?_) hKc (by rfl) ?_ ?_
                             rotate_left
                             · (simp only [Act.put, List.setIfInBounds_toArray, List.set_cons_zero, List.set_cons_succ]; with_reducible rfl)))
                        refine seq_callR (R := fun _ => True) (f := 20) (args := ?_) (v := ?_) (a' := ?_) (by rfl) (by rfl) (by rfl) Try.call20 ?_ ?_ ?_ ?_
                        rotate_left 3
                        · (go_simp; with_reducible rfl)
                        · ((with_reducible refine Calls.mono (htn _ hKc) ?_)
                           rintro e w' ⟨rfl, hk⟩
                           refine ⟨?_, hKc.trans hk, trivial⟩
                           with_reducible rfl)
                        · (simp only [Act.put, List.setIfInBounds_toArray, List.set_cons_zero, List.set_cons_succ]; with_reducible rfl)
                        clear hKc
                        intro wn hKc _
                        repeat (first
                          | (refine seq_take (v := ?_) (a' := ?_) (by rfl) ?_ ?_ ?_
                             rotate_left 2
                             · (intro w hSw; have hcs := HBOX.out w hSw; clear hSw; go_split_ands; go_simp; with_reducible rfl)
                             · (simp only [Act.put, List.setIfInBounds_toArray, List.set_cons_zero, List.set_cons_succ]; with_reducible rfl))
                          | (refine seq_skip (a' := ?_) hKc (by rfl) ?_ ?_
                             rotate_left
                             · (simp only [Act.put, List.setIfInBounds_toArray, List.set_cons_zero, List.set_cons_succ]; with_reducible rfl)))
                        refine seq_callR (R := fun _ => True) (f := 21) (args := ?_) (v := ?_) (a' := ?_) (by rfl) (by rfl) (by rfl) Try.call21 ?_ ?_ ?_ ?_
                        rotate_left 3
                        · (go_simp; with_reducible rfl)
                        · ((with_reducible refine Calls.mono (hrn _ hKc) ?_)
                           rintro e w' ⟨rfl, hk⟩
                           refine ⟨?_, hKc.trans hk, trivial⟩
                           with_reducible rfl)
                        · (simp only [Act.put, List.setIfInBounds_toArray, List.set_cons_zero, List.set_cons_succ]; with_reducible rfl)
                        clear hKc
                        intro wn hKc _
                        repeat (first
                          | (refine seq_take (v := ?_) (a' := ?_) (by rfl) ?_ ?_ ?_
                             rotate_left 2
                             · (intro w hSw; have hcs := HBOX.out w hSw; clear hSw; go_split_ands; go_simp; with_reducible rfl)
                             · (simp only [Act.put, List.setIfInBounds_toArray, List.set_cons_zero, List.set_cons_succ]; with_reducible rfl))
                          | (refine seq_skip (a' := ?_) hKc (by rfl) ?_ ?_
                             rotate_left
                             · (simp only [Act.put, List.setIfInBounds_toArray, List.set_cons_zero, List.set_cons_succ]; with_reducible rfl)))
                        refine seq_nil ?_
                        have HNEXT := Lib.hid (show Stp W0 bt bx lim (i + 1) wn from ⟨_, _, _, _, _, _, _, _, _, _, HPSm.out.kept hKc, HWY9.out, HNN9.out, by omega, by omega⟩)
                        clear hKc HBOX hrn htn
                        go_wp2
                        go_roundw
                        case rel => exact ⟨i + 1, by go_num, by omega, HNEXT⟩
                        case measure => simp [intOf]; omega
                    · have k0 : (o.kind == 0) = false := by rw [beq_eq_false_iff_ne]; omega
                      have k1 : (o.kind == 1) = true := by rw [beq_iff_eq]; exact h01
                      clear h01 h2 h3 h4 h5
                      obtain ⟨x0, x1, x2⟩ := HPS.out.box.cells
                      obtain ⟨o0, o1, o2, o3⟩ := HBO4.out.cells
                      obtain ⟨s0, s1⟩ := HBS4.out.cells
                      obtain ⟨n0, n1, n2, n3⟩ := HONE.out.cells
                      dsimp only at n0 n1 n2 n3
                      go_wp2_with fail
                      clear x0 x1 x2 o0 o1 o2 o3 s0 s1 n0 n1 n2 n3
                      generalize w3.alloc (.cells #[.int .i64 oc, .int .i64 os1, .int .i64 on, .int .i64 ox] 38) = V4 at *
                      generalize w3.heap.size = b1 at *

                      have hkr0 := HOK.out.1
                      have hlack : lack 32 0 o.key t = lk ever.reverse o.key 32 := HWY.out o.key hkr0.1 hkr0.2
                      have hndc : nd (o.key :: ever.reverse) = nn + lack 32 0 o.key t := by rw [hlack, HNN.out]; rfl
                      by_cases hroom : nn + lack 32 0 o.key t ≤ lim
                      · have hrp := rput_yes V4 A n c kr HPS.out.row (by omega) HRI.out B m d ever lim o.key o.val HPS.out.evr HPS.out.nil (by omega) HPS.out.rng hkr0 (by rw [hndc]; exact_mod_cast hroom)
                        obtain ⟨kr9, hkr9⟩ : ∃ kr9, kr9 = insK o.key o.val kr := ⟨_, rfl⟩
                        rw [← hkr9] at hrp
                        refine hrp.mono ?_
                        rintro e w5 ⟨A9, c9, n9, B9, d9, rfl, hn9, hpl9, hev9, hnl9, hfa, hfb, hk5⟩
                        have hn9l : n9 ≤ n + 1 := by
                          have h1 := HPS.out.row.1
                          have h2 := insK_length o.key o.val kr
                          rw [hn9, hkr9]
                          omega
                        have hp5 := HPS.out.keepq hk5
                        have hqv : q + 2 ≤ b1 ∧ b1 < V4.heap.size := ⟨HQ3.out, HONE.out.lt⟩
                        obtain ⟨hst7, ho7⟩ := hp5.stored (A' := A9) (n' := n9) (c' := c9) (kr' := kr9) (B' := B9) (m' := m + 1) (d' := d9) (ever' := ever ++ [o.key]) hpl9 hev9 hnl9
                          (fun k off e => .inl (by have h1 := hfa k off e; exact ⟨by omega, by omega⟩)) (fun k off e => .inl (by have h1 := hfb k off e; exact ⟨by omega, by omega⟩)) (fun h => by have := HWS.out; omega) (fun z hz => by
                            rcases List.mem_append.1 hz with h | h
                            · exact HPS.out.rng z h
                            · simp at h; subst h; exact hkr0)
                        have HP7 := Lib.hid (hst7.kept ((Keep.refl _).alloc (.cells #[.slice A9 n9 c9, .slice B9 (m + 1) d9, .int .i64 lim] 31)))
                        have hoc := HBO4.out.keep hk5
                        obtain ⟨x0, x1, x2⟩ := hp5.box.cells
                        obtain ⟨f0, f1, f2⟩ := hp5.box.free
                        have hbl5 := hp5.box.lt
                        have hol5 := hoc.lt
                        obtain ⟨o0, o1, o2, o3⟩ := hoc.cells
                        have hbne : ¬ bx = q := by have := HWS.out; omega
                        have hbne2 : ¬ q = bx := fun h => hbne h.symm
                        have HKR9 := Lib.hid hkr9
                        clear hrp hp5 hst7 ho7 hpl9 hev9 hfa hfb hk5 hn9 hkr9 hnl9 hqv hoc
                        dsimp only
                        go_wp2_with fail
                        clear x0 x1 x2 f0 f1 f2 o0 o1 o2 o3 hbl5 hol5
                        generalize (((w5.setCell ⟨bx, 0, none⟩ (.slice A9 n9 c9)).setCell ⟨bx, 1, none⟩ (.slice B9 (m + 1) d9)).setCell ⟨bx, 2, none⟩ (.int .i64 lim)).alloc (.cells #[.slice A9 n9 c9, .slice B9 (m + 1) d9, .int .i64 lim] 31) = V7 at *
                        have hpt := ps_put HP7.out (by have := HPS.out.row.1; omega) (key := o.key) (v := o.val) hkr0.1 (by omega) HOK.out.2.2 hroom
                        rw [← HKR9.out] at hpt
                        refine hpt.mono ?_
                        rintro e w8 ⟨rfl, hp8, -⟩
                        have HPS9 := Lib.hid hp8
                        have HWY9 := Lib.hid (show Ways (grow 32 0 o.key nn t) (ever ++ [o.key]).reverse from by
                          rw [show (ever ++ [o.key]).reverse = o.key :: ever.reverse from by simp]
                          exact HWY.out.put o.key nn hkr0.1 hkr0.2)
                        obtain ⟨nn9, hnn9⟩ : ∃ nn9, nn9 = nn + lack 32 0 o.key t := ⟨_, rfl⟩
                        rw [← hnn9] at HPS9
                        have HNN9 := Lib.hid (show nn9 = nd (ever ++ [o.key]).reverse from by
                          rw [show (ever ++ [o.key]).reverse = o.key :: ever.reverse from by simp, hndc, hnn9])
                        clear hpt hp8 hlack hndc hnn9 hroom hkr0
                        go_wp2_with fail
                        have HPSm := Lib.hid (HPS9.out.mono (Z' := fun _ => False) (fun _ h => h.elim))
                        have hKc := (Keep.refl w8).drew
                        have HBOX := Lib.hid (show ∀ W, Keep w8 W → W.cell? ⟨bx, 1, none⟩ = some (.slice B9 (m + 1) d9) from fun W hW => (HPSm.out.box.keep hW).cells.2.1)
                        have hrn := fun W (hW : Keep w8 W) => rnodes_is B9 (m + 1) d9 (ever ++ [o.key]) W ((HPSm.out.evr.below hW).more hW.size) HPSm.out.rng (by omega)
                        rw [← HNN9.out] at hrn
                        have htn := fun W (hW : Keep w8 W) => (tre_nodes (HPSm.out.tre.kept hW)).mono (fun e w' h => (show e = _ ∧ Keep W w' from ⟨h.1, by rw [h.2]; exact Keep.refl _⟩))
                        refine seq_region (S := fun w' => Keep w8 w') [⟨0, 16384, 1461501637330902918203684832716283019655932542976⟩, ⟨1, 1461501637330902918203684832716283019655932542976, 2923003274661805836407369665432566039311865085952⟩, ⟨2, 2923003274661805836407369665432566039311865085952, 5846006549323611672814739330865132078623730171904⟩, ⟨4, 5846006549323611672814739330865132078623730172032, 11692013098647223345629478661730264157247460343808⟩, ⟨12, 17538019647970835018444217992595396235871190515712, 23384026197294446691258957323460528314494920687616⟩, ⟨4, 5846006549323611672814739330865132078623730172416, 46768052394588893382517914646921056628989841375232⟩, ⟨36, 52614058943912505055332653977786188707613571547136, 93536104789177786765035829293842113257979682750464⟩, ⟨84, 99382111338501398437850568624707245336603412922368, 187072209578355573530071658587684226515959365500928⟩, ⟨148, 216302242324973631894145355242009886909078016360448, 374144419156711147060143317175368453031918731001856⟩, ⟨260, 379990425706034758732958056506233585110542461173760, 748288838313422294120286634350736906063837462003712⟩] [(0, false), (1, false), (2, false), (3, false), (5, false), (6, false), (4, true), (7, true), (8, false), (9, false)] rfl (by kernel_rfl) (by kernel_rfl) (fun _ _ d _ _ h => by cases d <;> exact h) hKc ?_
                        simp only [rowsOf, rowAt, gslot, List.map_cons, List.map_nil, List.getElem?_toArray, List.getElem?_cons_zero, List.getElem?_cons_succ]
                        repeat (first
                          | (refine seq_take (v := ?_) (a' := ?_) (by rfl) ?_ ?_ ?_
                             rotate_left 2
                             · (intro w hSw; have hcs := HBOX.out w hSw; clear hSw; go_split_ands; go_simp; with_reducible rfl)
                             · (simp only [Act.put, List.setIfInBounds_toArray, List.set_cons_zero, List.set_cons_succ]; with_reducible rfl))
                          | (refine seq_skip (a' := ?_) hKc (by rfl) ?_ ?_
                             rotate_left
                             · (simp only [Act.put, List.setIfInBounds_toArray, List.set_cons_zero, List.set_cons_succ]; with_reducible rfl)))
                        refine seq_callR (R := fun _ => True) (f := 20) (args := ?_) (v := ?_) (a' := ?_) (by rfl) (by rfl) (by rfl) Try.call20 ?_ ?_ ?_ ?_
                        rotate_left 3
                        · (go_simp; with_reducible rfl)
                        · ((with_reducible refine Calls.mono (htn _ hKc) ?_)
                           rintro e w' ⟨rfl, hk⟩
                           refine ⟨?_, hKc.trans hk, trivial⟩
                           with_reducible rfl)
                        · (simp only [Act.put, List.setIfInBounds_toArray, List.set_cons_zero, List.set_cons_succ]; with_reducible rfl)
                        clear hKc
                        intro wn hKc _
                        repeat (first
                          | (refine seq_take (v := ?_) (a' := ?_) (by rfl) ?_ ?_ ?_
                             rotate_left 2
                             · (intro w hSw; have hcs := HBOX.out w hSw; clear hSw; go_split_ands; go_simp; with_reducible rfl)
                             · (simp only [Act.put, List.setIfInBounds_toArray, List.set_cons_zero, List.set_cons_succ]; with_reducible rfl))
                          | (refine seq_skip (a' := ?_) hKc (by rfl) ?_ ?_
                             rotate_left
                             · (simp only [Act.put, List.setIfInBounds_toArray, List.set_cons_zero, List.set_cons_succ]; with_reducible rfl)))
                        refine seq_callR (R := fun _ => True) (f := 21) (args := ?_) (v := ?_) (a' := ?_) (by rfl) (by rfl) (by rfl) Try.call21 ?_ ?_ ?_ ?_
                        rotate_left 3
                        · (go_simp; with_reducible rfl)
                        · ((with_reducible refine Calls.mono (hrn _ hKc) ?_)
                           rintro e w' ⟨rfl, hk⟩
                           refine ⟨?_, hKc.trans hk, trivial⟩
                           with_reducible rfl)
                        · (simp only [Act.put, List.setIfInBounds_toArray, List.set_cons_zero, List.set_cons_succ]; with_reducible rfl)
                        clear hKc
                        intro wn hKc _
                        repeat (first
                          | (refine seq_take (v := ?_) (a' := ?_) (by rfl) ?_ ?_ ?_
                             rotate_left 2
                             · (intro w hSw; have hcs := HBOX.out w hSw; clear hSw; go_split_ands; go_simp; with_reducible rfl)
                             · (simp only [Act.put, List.setIfInBounds_toArray, List.set_cons_zero, List.set_cons_succ]; with_reducible rfl))
                          | (refine seq_skip (a' := ?_) hKc (by rfl) ?_ ?_
                             rotate_left
                             · (simp only [Act.put, List.setIfInBounds_toArray, List.set_cons_zero, List.set_cons_succ]; with_reducible rfl)))
                        refine seq_nil ?_
                        have HNEXT := Lib.hid (show Stp W0 bt bx lim (i + 1) wn from ⟨_, _, _, _, _, _, _, _, _, _, HPSm.out.kept hKc, HWY9.out, HNN9.out, by omega, by omega⟩)
                        clear hKc HBOX hrn htn
                        go_wp2
                        go_roundw
                        case rel => exact ⟨i + 1, by go_num, by omega, HNEXT⟩
                        case measure => simp [intOf]; omega
                      · have hrp := rput_no A n c B m d ever lim o.key o.val V4 HPS.out.evr HPS.out.nil (by omega) HPS.out.rng hkr0 (by rw [hndc]; exact_mod_cast Nat.lt_of_not_le hroom)
                        refine hrp.mono ?_
                        rintro e w5 ⟨rfl, hk5⟩
                        have hp5 := HPS.out.keepq hk5
                        obtain ⟨hst7, ho7⟩ := hp5.stored (A' := A) (n' := n) (c' := c) (kr' := kr) (B' := B) (m' := m) (d' := d) (ever' := ever) hp5.row hp5.evr hp5.nil
                          (fun k off e => .inr ⟨off, e⟩) (fun k off e => .inr ⟨off, e⟩) (fun h => by have := HWS.out; omega) hp5.rng
                        have HP7 := Lib.hid (hst7.kept ((Keep.refl _).alloc (.cells #[.slice A n c, .slice B m d, .int .i64 lim] 31)))
                        have hoc := HBO4.out.keep hk5
                        obtain ⟨x0, x1, x2⟩ := hp5.box.cells
                        obtain ⟨f0, f1, f2⟩ := hp5.box.free
                        have hbl5 := hp5.box.lt
                        have hol5 := hoc.lt
                        obtain ⟨o0, o1, o2, o3⟩ := hoc.cells
                        have hbne : ¬ bx = q := by have := HWS.out; omega
                        have hbne2 : ¬ q = bx := fun h => hbne h.symm
                        clear hrp hp5 hst7 ho7 hk5 hoc
                        dsimp only
                        go_wp2_with fail
                        clear x0 x1 x2 f0 f1 f2 o0 o1 o2 o3 hbl5 hol5
                        generalize (((w5.setCell ⟨bx, 0, none⟩ (.slice A n c)).setCell ⟨bx, 1, none⟩ (.slice B m d)).setCell ⟨bx, 2, none⟩ (.int .i64 lim)).alloc (.cells #[.slice A n c, .slice B m d, .int .i64 lim] 31) = V7 at *
                        refine (ps_putno HP7.out (key := o.key) (v := o.val) hkr0.1 (by omega) (Nat.lt_of_not_le hroom)).mono ?_
                        rintro e w8 ⟨rfl, hk8⟩
                        have HPS9 := Lib.hid (HP7.out.kept hk8)
                        have HWY9 := HWY
                        have HNN9 := HNN
                        clear hk8 hlack hndc hroom hkr0
                        go_wp2_with fail
                        have HPSm := Lib.hid (HPS9.out.mono (Z' := fun _ => False) (fun _ h => h.elim))
                        have hKc := (Keep.refl w8).drew
                        have HBOX := Lib.hid (show ∀ W, Keep w8 W → W.cell? ⟨bx, 1, none⟩ = some (.slice B m d) from fun W hW => (HPSm.out.box.keep hW).cells.2.1)
                        have hrn := fun W (hW : Keep w8 W) => rnodes_is B m d ever W ((HPSm.out.evr.below hW).more hW.size) HPSm.out.rng (by omega)
                        rw [← HNN9.out] at hrn
                        have htn := fun W (hW : Keep w8 W) => (tre_nodes (HPSm.out.tre.kept hW)).mono (fun e w' h => (show e = _ ∧ Keep W w' from ⟨h.1, by rw [h.2]; exact Keep.refl _⟩))
                        refine seq_region (S := fun w' => Keep w8 w') [⟨0, 16384, 1461501637330902918203684832716283019655932542976⟩, ⟨1, 1461501637330902918203684832716283019655932542976, 2923003274661805836407369665432566039311865085952⟩, ⟨2, 2923003274661805836407369665432566039311865085952, 5846006549323611672814739330865132078623730171904⟩, ⟨4, 5846006549323611672814739330865132078623730172032, 11692013098647223345629478661730264157247460343808⟩, ⟨12, 17538019647970835018444217992595396235871190515712, 23384026197294446691258957323460528314494920687616⟩, ⟨4, 5846006549323611672814739330865132078623730172416, 46768052394588893382517914646921056628989841375232⟩, ⟨36, 52614058943912505055332653977786188707613571547136, 93536104789177786765035829293842113257979682750464⟩, ⟨84, 99382111338501398437850568624707245336603412922368, 187072209578355573530071658587684226515959365500928⟩, ⟨148, 216302242324973631894145355242009886909078016360448, 374144419156711147060143317175368453031918731001856⟩, ⟨260, 379990425706034758732958056506233585110542461173760, 748288838313422294120286634350736906063837462003712⟩] [(0, false), (1, false), (2, false), (3, false), (5, false), (6, false), (4, true), (7, true), (8, false), (9, false)] rfl (by kernel_rfl) (by kernel_rfl) (fun _ _ d _ _ h => by cases d <;> exact h) hKc ?_
                        simp only [rowsOf, rowAt, gslot, List.map_cons, List.map_nil, List.getElem?_toArray, List.getElem?_cons_zero, List.getElem?_cons_succ]
                        repeat (first
                          | (refine seq_take (v := ?_) (a' := ?_) (by rfl) ?_ ?_ ?_
                             rotate_left 2
                             · (intro w hSw; have hcs := HBOX.out w hSw; clear hSw; go_split_ands; go_simp; with_reducible rfl)
                             · (simp only [Act.put, List.setIfInBounds_toArray, List.set_cons_zero, List.set_cons_succ]; with_reducible rfl))
                          | (refine seq_skip (a' := ?_) hKc (by rfl) ?_ ?_
                             rotate_left
                             · (simp only [Act.put, List.setIfInBounds_toArray, List.set_cons_zero, List.set_cons_succ]; with_reducible rfl)))
                        refine seq_callR (R := fun _ => True) (f := 20) (args := ?_) (v := ?_) (a' := ?_) (by rfl) (by rfl) (by rfl) Try.call20 ?_ ?_ ?_ ?_
                        rotate_left 3
                        · (go_simp; with_reducible rfl)
                        · ((with_reducible refine Calls.mono (htn _ hKc) ?_)
                           rintro e w' ⟨rfl, hk⟩
                           refine ⟨?_, hKc.trans hk, trivial⟩
                           with_reducible rfl)
                        · (simp only [Act.put, List.setIfInBounds_toArray, List.set_cons_zero, List.set_cons_succ]; with_reducible rfl)
                        clear hKc
                        intro wn hKc _
                        repeat (first
                          | (refine seq_take (v := ?_) (a' := ?_) (by rfl) ?_ ?_ ?_
                             rotate_left 2
                             · (intro w hSw; have hcs := HBOX.out w hSw; clear hSw; go_split_ands; go_simp; with_reducible rfl)
                             · (simp only [Act.put, List.setIfInBounds_toArray, List.set_cons_zero, List.set_cons_succ]; with_reducible rfl))
                          | (refine seq_skip (a' := ?_) hKc (by rfl) ?_ ?_
                             rotate_left
                             · (simp only [Act.put, List.setIfInBounds_toArray, List.set_cons_zero, List.set_cons_succ]; with_reducible rfl)))
                        refine seq_callR (R := fun _ => True) (f := 21) (args := ?_) (v := ?_) (a' := ?_) (by rfl) (by rfl) (by rfl) Try.call21 ?_ ?_ ?_ ?_
                        rotate_left 3
                        · (go_simp; with_reducible rfl)
                        · ((with_reducible refine Calls.mono (hrn _ hKc) ?_)
                           rintro e w' ⟨rfl, hk⟩
                           refine ⟨?_, hKc.trans hk, trivial⟩
                           with_reducible rfl)
                        · (simp only [Act.put, List.setIfInBounds_toArray, List.set_cons_zero, List.set_cons_succ]; with_reducible rfl)
                        clear hKc
                        intro wn hKc _
                        repeat (first
                          | (refine seq_take (v := ?_) (a' := ?_) (by rfl) ?_ ?_ ?_
                             rotate_left 2
                             · (intro w hSw; have hcs := HBOX.out w hSw; clear hSw; go_split_ands; go_simp; with_reducible rfl)
                             · (simp only [Act.put, List.setIfInBounds_toArray, List.set_cons_zero, List.set_cons_succ]; with_reducible rfl))
                          | (refine seq_skip (a' := ?_) hKc (by rfl) ?_ ?_
                             rotate_left
                             · (simp only [Act.put, List.setIfInBounds_toArray, List.set_cons_zero, List.set_cons_succ]; with_reducible rfl)))
                        refine seq_nil ?_
                        have HNEXT := Lib.hid (show Stp W0 bt bx lim (i + 1) wn from ⟨_, _, _, _, _, _, _, _, _, _, HPSm.out.kept hKc, HWY9.out, HNN9.out, by omega, by omega⟩)
                        clear hKc HBOX hrn htn
                        go_wp2
                        go_roundw
                        case rel => exact ⟨i + 1, by go_num, by omega, HNEXT⟩
                        case measure => simp [intOf]; omega
                  · have k0 : (o.kind == 0) = false := by rw [beq_eq_false_iff_ne]; exact fun h => h01 (.inl h)
                    have k1 : (o.kind == 1) = false := by rw [beq_eq_false_iff_ne]; exact fun h => h01 (.inr h)
                    have k2 : (o.kind == 2) = false := by rw [beq_eq_false_iff_ne]; exact h2
                    have k3 : (o.kind == 3) = false := by rw [beq_eq_false_iff_ne]; exact h3
                    have k4 : (o.kind == 4) = false := by rw [beq_eq_false_iff_ne]; exact h4
                    have k5 : (o.kind == 5) = false := by rw [beq_eq_false_iff_ne]; exact h5
                    clear h2 h3 h4 h5 h01
                    obtain ⟨x0, x1, x2⟩ := HPS.out.box.cells
                    obtain ⟨o0, o1, o2, o3⟩ := HBO4.out.cells
                    obtain ⟨s0, s1⟩ := HBS4.out.cells
                    obtain ⟨n0, n1, n2, n3⟩ := HONE.out.cells
                    dsimp only at n0 n1 n2 n3
                    go_wp2_with fail
                    clear x0 x1 x2 o0 o1 o2 o3 s0 s1 n0 n1 n2 n3
                    generalize w3.alloc (.cells #[.int .i64 oc, .int .i64 os1, .int .i64 on, .int .i64 ox] 38) = V4 at *
                    generalize w3.heap.size = b1 at *
                    have HPS9 := HPS
                    have HWY9 := HWY
                    have HNN9 := HNN

                    have HPSm := Lib.hid (HPS9.out.mono (Z' := fun _ => False) (fun _ h => h.elim))
                    have hKc := (Keep.refl V4).drew
                    have HBOX := Lib.hid (show ∀ W, Keep V4 W → W.cell? ⟨bx, 1, none⟩ = some (.slice B m d) from fun W hW => (HPSm.out.box.keep hW).cells.2.1)
                    have hrn := fun W (hW : Keep V4 W) => rnodes_is B m d ever W ((HPSm.out.evr.below hW).more hW.size) HPSm.out.rng (by omega)
                    rw [← HNN9.out] at hrn
                    have htn := fun W (hW : Keep V4 W) => (tre_nodes (HPSm.out.tre.kept hW)).mono (fun e w' h => (show e = _ ∧ Keep W w' from ⟨h.1, by rw [h.2]; exact Keep.refl _⟩))
                    refine seq_region (S := fun w' => Keep V4 w') [⟨0, 16384, 1461501637330902918203684832716283019655932542976⟩, ⟨1, 1461501637330902918203684832716283019655932542976, 2923003274661805836407369665432566039311865085952⟩, ⟨2, 2923003274661805836407369665432566039311865085952, 5846006549323611672814739330865132078623730171904⟩, ⟨4, 5846006549323611672814739330865132078623730172032, 11692013098647223345629478661730264157247460343808⟩, ⟨12, 17538019647970835018444217992595396235871190515712, 23384026197294446691258957323460528314494920687616⟩, ⟨4, 5846006549323611672814739330865132078623730172416, 46768052394588893382517914646921056628989841375232⟩, ⟨36, 52614058943912505055332653977786188707613571547136, 93536104789177786765035829293842113257979682750464⟩, ⟨84, 99382111338501398437850568624707245336603412922368, 187072209578355573530071658587684226515959365500928⟩, ⟨148, 216302242324973631894145355242009886909078016360448, 374144419156711147060143317175368453031918731001856⟩, ⟨260, 379990425706034758732958056506233585110542461173760, 748288838313422294120286634350736906063837462003712⟩] [(0, false), (1, false), (2, false), (3, false), (5, false), (6, false), (4, true), (7, true), (8, false), (9, false)] rfl (by kernel_rfl) (by kernel_rfl) (fun _ _ d _ _ h => by cases d <;> exact h) hKc ?_
                    simp only [rowsOf, rowAt, gslot, List.map_cons, List.map_nil, List.getElem?_toArray, List.getElem?_cons_zero, List.getElem?_cons_succ]
                    repeat (first
                      | (refine seq_take (v := ?_) (a' := ?_) (by rfl) ?_ ?_ ?_
                         rotate_left 2
                         · (intro w hSw; have hcs := HBOX.out w hSw; clear hSw; go_split_ands; go_simp; with_reducible rfl)
                         · (simp only [Act.put, List.setIfInBounds_toArray, List.set_cons_zero, List.set_cons_succ]; with_reducible rfl))
                      | (refine seq_skip (a' := ?_) hKc (by rfl) ?_ ?_
                         rotate_left
                         · (simp only [Act.put, List.setIfInBounds_toArray, List.set_cons_zero, List.set_cons_succ]; with_reducible rfl)))
                    refine seq_callR (R := fun _ => True) (f := 20) (args := ?_) (v := ?_) (a' := ?_) (by rfl) (by rfl) (by rfl) Try.call20 ?_ ?_ ?_ ?_
                    rotate_left 3
                    · (go_simp; with_reducible rfl)
                    · ((with_reducible refine Calls.mono (htn _ hKc) ?_)
                       rintro e w' ⟨rfl, hk⟩
                       refine ⟨?_, hKc.trans hk, trivial⟩
                       with_reducible rfl)
                    · (simp only [Act.put, List.setIfInBounds_toArray, List.set_cons_zero, List.set_cons_succ]; with_reducible rfl)
                    clear hKc
                    intro wn hKc _
                    repeat (first
                      | (refine seq_take (v := ?_) (a' := ?_) (by rfl) ?_ ?_ ?_
                         rotate_left 2
                         · (intro w hSw; have hcs := HBOX.out w hSw; clear hSw; go_split_ands; go_simp; with_reducible rfl)
                         · (simp only [Act.put, List.setIfInBounds_toArray, List.set_cons_zero, List.set_cons_succ]; with_reducible rfl))
                      | (refine seq_skip (a' := ?_) hKc (by rfl) ?_ ?_
                         rotate_left
                         · (simp only [Act.put, List.setIfInBounds_toArray, List.set_cons_zero, List.set_cons_succ]; with_reducible rfl)))
                    refine seq_callR (R := fun _ => True) (f := 21) (args := ?_) (v := ?_) (a' := ?_) (by rfl) (by rfl) (by rfl) Try.call21 ?_ ?_ ?_ ?_
                    rotate_left 3
                    · (go_simp; with_reducible rfl)
                    · ((with_reducible refine Calls.mono (hrn _ hKc) ?_)
                       rintro e w' ⟨rfl, hk⟩
                       refine ⟨?_, hKc.trans hk, trivial⟩
                       with_reducible rfl)
                    · (simp only [Act.put, List.setIfInBounds_toArray, List.set_cons_zero, List.set_cons_succ]; with_reducible rfl)
                    clear hKc
                    intro wn hKc _
                    repeat (first
                      | (refine seq_take (v := ?_) (a' := ?_) (by rfl) ?_ ?_ ?_
                         rotate_left 2
                         · (intro w hSw; have hcs := HBOX.out w hSw; clear hSw; go_split_ands; go_simp; with_reducible rfl)
                         · (simp only [Act.put, List.setIfInBounds_toArray, List.set_cons_zero, List.set_cons_succ]; with_reducible rfl))
                      | (refine seq_skip (a' := ?_) hKc (by rfl) ?_ ?_
                         rotate_left
                         · (simp only [Act.put, List.setIfInBounds_toArray, List.set_cons_zero, List.set_cons_succ]; with_reducible rfl)))
                    refine seq_nil ?_
                    have HNEXT := Lib.hid (show Stp W0 bt bx lim (i + 1) wn from ⟨_, _, _, _, _, _, _, _, _, _, HPSm.out.kept hKc, HWY9.out, HNN9.out, by omega, by omega⟩)
                    clear hKc HBOX hrn htn
                    go_wp2
                    go_roundw
                    case rel => exact ⟨i + 1, by go_num, by omega, HNEXT⟩
                    case measure => simp [intOf]; omega
        · have hie : i = len := by omega
          subst hie
          obtain ⟨A, n, c, kr, B, m, d, ever, nn, t, hst, -, -, hni, -⟩ := HST.out
          have hiI : ¬ (i : Int) < (i : Int) := by omega
          obtain ⟨mm, hmm, hm7⟩ := and_7 most
          have HPS := Lib.hid hst
          have HKW := Lib.hid (HK0.out.trans hst.keepW)
          have hrl := hst.row.1
          obtain ⟨lf, hlf⟩ : ∃ lf, lf = min mm n := ⟨_, rfl⟩
          have hmin : (if n < mm then (n : Int) else (mm : Int)) = (lf : Int) := by split <;> omega
          have HRL := Lib.hid hrl
          have HLF := Lib.hid hlf
          clear hst HST hi hil hrl hlf
          go_wp2_with fail
          have hKc := (Keep.refl wr).drew
          have HBOX := Lib.hid (show ∀ W, Keep wr W → W.cell? ⟨bx, 0, none⟩ = some (.slice A n c) from fun W hW => (HPS.out.box.keep hW).cells.1)
          refine seq_region (S := fun w' => Keep wr w') [⟨0, 128, 2993155353253689176481146537402947624255349848014848⟩, ⟨1, 2993155353253689176481146537402947624255349848014848, 5986310706507378352962293074805895248510699696029696⟩, ⟨0, 512, 11972621413014756705924586149611790497021399392059392⟩, ⟨4, 11972621413014756705924586149611790497021399392059392, 23945242826029513411849172299223580994042798784118784⟩, ⟨10, 29931553532536891764811465374029476242553498480148480, 47890485652059026823698344598447161988085597568237568⟩, ⟨16, 47890485652059026823698344598447161988085597568237568, 95780971304118053647396689196894323976171195136475136⟩, ⟨32, 95780971304118053647396689196894323976171195136475264, 191561942608236107294793378393788647952342390272950272⟩, ⟨32, 95780971304118053647396689196894323976171195136475140, 383123885216472214589586756787577295904684780545900544⟩, ⟨160, 478904856520590268236983445984471619880855975682375680, 766247770432944429179173513575154591809369561091801088⟩, ⟨352, 1053590684345298590121363581165837563737883146501226496, 1532495540865888858358347027150309183618739122183602176⟩, ⟨544, 1628276512170006912005743716347203507594910317320077312, 3064991081731777716716694054300618367237478244367204352⟩, ⟨32, 95780971304118053647396689196894323976171195136475140, 6129982163463555433433388108601236734474956488734408704⟩, ⟨2080, 6225763134767673487080784797798131058451127683870883840, 12259964326927110866866776217202473468949912977468817408⟩, ⟨32, 95780971304118053647396689196894323976171195136475648, 24519928653854221733733552434404946937899825954937634816⟩, ⟨8224, 24615709625158339787380949123601841261875997150074109952, 49039857307708443467467104868809893875799651909875269632⟩, ⟨16416, 49135638279012561521114501558006788199775823105011744768, 98079714615416886934934209737619787751599303819750539264⟩, ⟨36896, 110435459913648115855448382644019155544525387992355831808, 196159429230833773869868419475239575503198607639501078528⟩, ⟨66592, 199320201283869669640232510218737088194412257079004758016, 392318858461667547739736838950479151006397215279002157056⟩, ⟨131104, 392414639432971665793384235639676045330373386474138632192, 784637716923335095479473677900958302012794430558004314112⟩, ⟨524287, 784637716923335095479473677900958302012794430558004314112, 64⟩] [(0, false), (2, false), (3, false), (1, true), (4, true), (5, false), (6, false), (7, false), (8, false), (11, false), (12, false), (13, false), (14, false), (15, false), (16, false), (9, true), (10, false), (17, false), (18, false), (19, false)] rfl (by kernel_rfl) (by kernel_rfl) (fun _ _ d _ _ h => by cases d <;> exact h) hKc ?_
          simp only [rowsOf, rowAt, gslot, List.map_cons, List.map_nil, List.getElem?_toArray, List.getElem?_cons_zero, List.getElem?_cons_succ]
          repeat (first
            | (refine seq_take (v := ?_) (a' := ?_) (by rfl) ?_ ?_ ?_
               rotate_left 2
               · (intro w hSw; have hcs := HBOX.out w hSw; clear hSw; go_split_ands; go_simp; with_reducible rfl)
               · (simp only [Act.put, List.setIfInBounds_toArray, List.set_cons_zero, List.set_cons_succ]; with_reducible rfl))
            | (refine seq_skip (a' := ?_) hKc (by rfl) ?_ ?_
               rotate_left
               · (simp only [Act.put, List.setIfInBounds_toArray, List.set_cons_zero, List.set_cons_succ]; with_reducible rfl)))
          refine seq_callX (R := fun v W => ∃ P1 d1, v = .slice P1 n d1 ∧ PL W P1 n kr) (f := 23) (args := ?_) (by rfl) (by rfl) (by rfl) Try.call23 ?_ ?_ ?_
          rotate_left 1
          · (go_simp; with_reducible rfl)
          · ((with_reducible refine Calls.mono (tre_pairs (HPS.out.tre.kept hKc) n HRL.out (by omega)) ?_)
             rintro e w' ⟨P1, d1, rfl, hp, hk⟩
             exact ⟨_, rfl, hKc.trans hk, P1, d1, rfl, hp⟩)
          clear hKc
          intro v w6 hKc ⟨P1, d1, hv, hp1⟩
          subst hv
          simp only [Act.put, List.setIfInBounds_toArray, List.set_cons_zero, List.set_cons_succ]
          repeat (first
            | (refine seq_take (v := ?_) (a' := ?_) (by rfl) ?_ ?_ ?_
               rotate_left 2
               · (intro w hSw; have hcs := HBOX.out w hSw; clear hSw; go_split_ands; go_simp; with_reducible rfl)
               · (simp only [Act.put, List.setIfInBounds_toArray, List.set_cons_zero, List.set_cons_succ]; with_reducible rfl))
            | (refine seq_skip (a' := ?_) hKc (by rfl) ?_ ?_
               rotate_left
               · (simp only [Act.put, List.setIfInBounds_toArray, List.set_cons_zero, List.set_cons_succ]; with_reducible rfl)))
          refine seq_callR (R := fun _ => True) (f := 22) (args := ?_) (v := ?_) (a' := ?_) (by rfl) (by rfl) (by rfl) Try.call22 ?_ ?_ ?_ ?_
          rotate_left 3
          · (go_simp; with_reducible rfl)
          · ((with_reducible refine Calls.mono (same_yes P1 n d1 A c kr _ hp1 (HPS.out.row.keep hKc) (by omega)) ?_)
             rintro e w' ⟨rfl, hk⟩
             refine ⟨?_, hKc.trans hk, trivial⟩
             with_reducible rfl)
          · (simp only [Act.put, List.setIfInBounds_toArray, List.set_cons_zero, List.set_cons_succ]; with_reducible rfl)
          clear hKc
          intro wn hKc _
          repeat (first
            | (refine seq_take (v := ?_) (a' := ?_) (by rfl) ?_ ?_ ?_
               rotate_left 2
               · (intro w hSw; have hcs := HBOX.out w hSw; clear hSw; go_split_ands; go_simp; with_reducible rfl)
               · (simp only [Act.put, List.setIfInBounds_toArray, List.set_cons_zero, List.set_cons_succ]; with_reducible rfl))
            | (refine seq_skip (a' := ?_) hKc (by rfl) ?_ ?_
               rotate_left
               · (simp only [Act.put, List.setIfInBounds_toArray, List.set_cons_zero, List.set_cons_succ]; with_reducible rfl)))
          refine seq_callX (R := fun v _ => ∃ P2 d2, v = .slice P2 lf d2) (f := 23) (args := ?_) (by rfl) (by rfl) (by rfl) Try.call23 ?_ ?_ ?_
          rotate_left 1
          · (go_simp; with_reducible rfl)
          · ((with_reducible refine Calls.mono (tre_few (HPS.out.tre.kept hKc) n HRL.out (by omega) mm hm7) ?_)
             rintro e w' ⟨P2, d2, rfl, hk⟩
             rw [← HLF.out]
             exact ⟨_, rfl, hKc.trans hk, P2, d2, rfl⟩)
          clear hKc
          intro v w7 hKc ⟨P2, d2, hv⟩
          subst hv
          simp only [Act.put, List.setIfInBounds_toArray, List.set_cons_zero, List.set_cons_succ]
          repeat (first
            | (refine seq_take (v := ?_) (a' := ?_) (by rfl) ?_ ?_ ?_
               rotate_left 2
               · (intro w hSw; have hcs := HBOX.out w hSw; clear hSw; go_split_ands; go_simp; with_reducible rfl)
               · (simp only [Act.put, List.setIfInBounds_toArray, List.set_cons_zero, List.set_cons_succ]; with_reducible rfl))
            | (refine seq_skip (a' := ?_) hKc (by rfl) ?_ ?_
               rotate_left
               · (simp only [Act.put, List.setIfInBounds_toArray, List.set_cons_zero, List.set_cons_succ]; with_reducible rfl)))
          refine seq_nil ?_
          have HKE := Lib.hid (HKW.out.trans hKc)
          clear hKc HBOX hmm hmin hp1
          go_wp2
          go_ret
          exact ⟨rfl, HKE.out⟩
  · have hlI : decide (40 < (len : Int)) = true := decide_eq_true (by omega)
    go_enter Try.func3, Try.ntmps3
    go_wp2_with fail
    refine (alive_any w).mono ?_
    rintro e W0 ⟨rfl, hk0⟩
    have HK0 := Lib.hid hk0
    clear hk0
    go_wp2
    go_ret
    exact ⟨rfl, HK0.out⟩
end Go.Proofs.Ytopengbflnoneaa
