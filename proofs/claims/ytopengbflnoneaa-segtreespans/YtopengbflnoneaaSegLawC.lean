/- SegtreeSpans: a walk. -/
import Derived.Test.YtopengbflnoneaaSegAlive
import Derived.Test.YtopengbflnoneaaSegArg
import Derived.Test.YtopengbflnoneaaSegSpansM
import Derived.Test.YtopengbflnoneaaAggRM
import Derived.Test.YtopengbflnoneaaAggEqM
import Derived.Test.YtopengbflnoneaaArr2
namespace Go.Proofs.Ytopengbflnoneaa
open Go.RowKit

theorem agF2 : ∃ f0 f1 f2 f3 : Field, Try.prog.underlying 38 = some (.struct #[f0, f1, f2, f3]) ∧ f0.offset = 0 ∧ f1.offset = 1 ∧ f2.offset = 2 ∧ f3.offset = 3 := ⟨_, _, _, _, Try.underlying38, by kernel_rfl, by kernel_rfl, by kernel_rfl, by kernel_rfl⟩
set_option maxRecDepth 100000 in
set_option maxHeartbeats 8000000 in
theorem SegtreeSpans_std (A : Option Addr) (len cap : Nat) (zs : List Int) (lo : Int) (wlo : (Lit.int .u32 lo).wf = true) (cut : Int) (wcut : (Lit.int .u32 cut).wf = true) (hi : Int) (whi : (Lit.int .u32 hi).wf = true) (w : World) (row : Arr .u32 w A len zs) :
    Calls Try.prog 4 #[.slice A len cap, .int .u32 lo, .int .u32 cut, .int .u32 hi] w fun e w' => e = .returned (.bool true) ∧ Below w.heap.size w w' := by
  have HR := Lib.hid row
  have blo := bounds_u32' wlo
  have bcut := bounds_u32' wcut
  have bhi := bounds_u32' whi
  have HBL := Lib.hid blo
  have HBC := Lib.hid bcut
  have HBH := Lib.hid bhi
  clear row wlo wcut whi blo bcut bhi
  by_cases hg : len ≤ 40 ∧ lo ≤ cut ∧ cut < hi
  · obtain ⟨hlen, hlc, hch⟩ := hg
    have HLC := Lib.hid hlc
    have HCH := Lib.hid hch
    have hlI : decide (40 < (len : Int)) = false := decide_eq_false (by omega)
    have hg1 : decide (cut < lo) = false := decide_eq_false (by omega)
    have hg2 : decide (hi ≤ cut) = false := decide_eq_false (by omega)
    have hwr : (cut + 1) % 4294967296 = cut + 1 := by have := HBC.out; have := HBH.out; omega
    clear hlc hch
    go_enter Try.func4, Try.ntmps4
    go_wp2_with fail
    refine (alive_any w).mono ?_
    rintro e W0 ⟨rfl, hk0⟩
    have HK0 := Lib.hid hk0
    clear hk0
    go_wp2_with fail
    refine (tre_new 1048576 W0 (by decide) (by decide)).mono ?_
    rintro e W1 ⟨rfl, hT⟩
    have HT := Lib.hid hT
    clear hT hg1 hg2
    go_wp2_with fail
    go_loopw [43] (fun i wr => ∃ k : Nat, i = .int .i64 k ∧ k ≤ len ∧ Hid (∃ n t kvs, Tre W0 (W0.heap.size + 1) 1048576 n t kvs (fun _ => False) wr ∧ n ≤ 33 * k ∧ kvs.length ≤ k ∧ (0 < k → lack 32 0 (zs.getD 0 0) t = 0) ∧ (k = 0 → n = 0))) (fun i _ => len - (intOf i).toNat)
    case atStart => exact ⟨0, rfl, by omega, Lib.hid ⟨0, .nil, [], HT.out, by omega, by simp, fun h => by omega, fun _ => rfl⟩⟩
    case round =>
      obtain ⟨k, rfl, hk, HX⟩ := hrel
      clear HT
      by_cases hlt : k < len
      · obtain ⟨n, t, kvs, hT, hn, hkl, hl0, -⟩ := HX.out
        have hKw : Keep w wr := HK0.out.trans hT.keepW
        obtain ⟨b, off, e, hb, hc⟩ := HR.out.2.1.2 (by omega)
        subst e
        have hzl : zs.length = len := by have := HR.out.2.1.1; rwa [vals_length] at this
        have hkz : k < zs.length := by omega
        obtain ⟨v, hv⟩ : ∃ v, zs[k]? = some v := ⟨_, List.getElem?_eq_getElem hkz⟩
        have hvr := bounds_u32' (HR.out.2.2 v (List.mem_of_getElem? hv))
        have c0 : wr.cell? ⟨b, off + k, none⟩ = some (.int .u32 v) := by
          rw [hKw.cell (p := ⟨b, off + k, none⟩) hb, hc k hlt, vals_getD _ _ _ hkz]
          rw [List.getD_eq_getElem?_getD, hv]
          rfl
        have hkI : (k : Int) < (len : Int) := by omega
        have hlk := lack_le 32 0 v t
        have hput := tre_put_yes hT (key := v) (v := (k : Int)) (by omega) hvr.1 hvr.2 ⟨by omega, by omega⟩ (by omega)
        have hl1 : lack 32 0 (zs.getD 0 0) (grow 32 0 v n t) = 0 := by
          by_cases hk0 : k = 0
          · subst hk0
            rw [List.getD_eq_getElem?_getD, hv]
            exact lack_grow_self 32 0 v n t
          · have h1 := hl0 (by omega)
            have h2 := lack_grow_le 32 0 v (zs.getD 0 0) n t
            omega
        have HPUT := Lib.hid hput
        have HLK := Lib.hid (show n + lack 32 0 v t ≤ 33 * (k + 1) by omega)
        have HKL := Lib.hid (insK_len (key := v) (v := (k : Int)) hkl)
        have HL1 := Lib.hid hl1
        clear hT hn hkl hKw hc hv hvr hkz hput hlk HX hl0 hl1
        go_wp2_with fail
        refine HPUT.out.mono ?_
        rintro e W2 ⟨rfl, hT2, -⟩
        generalize n + lack 32 0 v t = n2 at *
        generalize insK v (k : Int) kvs = kvs2 at *
        generalize grow 32 0 v n t = t2 at *
        have HT2 := Lib.hid hT2
        clear hT2 HPUT c0
        go_wp2
        go_roundw
        case rel => exact ⟨k + 1, by go_num, by omega, Lib.hid ⟨_, _, _, HT2.out, HLK.out, HKL.out, fun _ => HL1.out, fun h => by omega⟩⟩
        case measure => simp [intOf]; omega
      · have hke : k = len := by omega
        subst hke
        obtain ⟨n, t, kvs, hT, hn, hkl, hl0, hn0⟩ := HX.out
        have hkI : ¬ (k : Int) < (k : Int) := by omega
        have hkv : kvs.length ≤ 40 := by omega
        have hn1 : n ≤ 33 * 40 := by omega
        clear HX hlt hk
        have HT := Lib.hid hT
        have HKV := Lib.hid hkv
        have HN := Lib.hid hn1
        have HN0 := Lib.hid hn0
        have HL0 := Lib.hid hl0
        have hrg := hT.range
        have hrs := hT.rises
        obtain ⟨ac, as1, an, ax, hfa⟩ : ∃ c s n x, ofL (vs (kvs.filter (inS lo cut))) = ⟨c, s, n, x⟩ := ⟨_, _, _, _, rfl⟩
        obtain ⟨bc, bs, bn, bx, hfb⟩ : ∃ c s n x, ofL (vs (kvs.filter (inS (cut + 1) hi))) = ⟨c, s, n, x⟩ := ⟨_, _, _, _, rfl⟩
        obtain ⟨fc, fs, fn, fx, hff⟩ : ∃ c s n x, ofL (vs (kvs.filter (inS lo hi))) = ⟨c, s, n, x⟩ := ⟨_, _, _, _, rfl⟩
        obtain ⟨lc, ls, ln, lx, hfl⟩ : ∃ c s n x, ofL (vs (kvs.filter (fun p => !inS lo cut p))) = ⟨c, s, n, x⟩ := ⟨_, _, _, _, rfl⟩
        obtain ⟨wc, ws, wn, wx, hfw⟩ : ∃ c s n x, ofL (vs kvs) = ⟨c, s, n, x⟩ := ⟨_, _, _, _, rfl⟩
        have hm : mrg ⟨ac, as1, an, ax⟩ ⟨bc, bs, bn, bx⟩ = ⟨fc, fs, fn, fx⟩ := by rw [← hfa, ← hfb, ← hff]; exact cut_merge hrg (by omega) hrs HLC.out HCH.out
        have hwc : wc = kvs.length := by have := cnt_of' hrg (by omega); rwa [hfw] at this
        subst hwc
        have hlc : lc = (kvs.length : Int) - ac := by have := left_cnt hrg (by omega) (inS lo cut); rwa [hfl, hfw, hfa] at this
        have hls : wrap64 (ws - as1) = ls := by have := left_sum hrg (by omega) (inS lo cut); rwa [hfl, hfw, hfa] at this
        have hac : ac = ((kvs.filter (inS lo cut)).length : Int) := by have := (is_part hrg (by omega) (inS lo cut)).c; rw [hfa, vs_length] at this; exact this
        have hal := part_len (inS lo cut) kvs
        have HFA := Lib.hid (show ∀ W, Keep wr W → Calls Try.prog 18 #[.pointer (some ⟨W0.heap.size + 1, 0, none⟩), .agg #[.int .u32 lo, .int .u32 cut]] W fun e w' => e = .returned (.agg #[.int .i64 ac, .int .i64 as1, .int .i64 an, .int .i64 ax]) ∧ Keep W w' from fun W hk => by
          have := tre_fold (hT.kept hk) (by omega) lo cut; rwa [hfa] at this)
        have HFB := Lib.hid (show ∀ W, Keep wr W → Calls Try.prog 18 #[.pointer (some ⟨W0.heap.size + 1, 0, none⟩), .agg #[.int .u32 (cut + 1), .int .u32 hi]] W fun e w' => e = .returned (.agg #[.int .i64 bc, .int .i64 bs, .int .i64 bn, .int .i64 bx]) ∧ Keep W w' from fun W hk => by
          have := tre_fold (hT.kept hk) (by omega) (cut + 1) hi; rwa [hfb] at this)
        have HFF := Lib.hid (show ∀ W, Keep wr W → Calls Try.prog 18 #[.pointer (some ⟨W0.heap.size + 1, 0, none⟩), .agg #[.int .u32 lo, .int .u32 hi]] W fun e w' => e = .returned (.agg #[.int .i64 fc, .int .i64 fs, .int .i64 fn, .int .i64 fx]) ∧ Keep W w' from fun W hk => by
          have := tre_fold (hT.kept hk) (by omega) lo hi; rwa [hff] at this)
        have HFW := Lib.hid (show ∀ W, Keep wr W → Calls Try.prog 18 #[.pointer (some ⟨W0.heap.size + 1, 0, none⟩), .agg #[.int .u32 0, .int .u32 4294967295]] W fun e w' => e = .returned (.agg #[.int .i64 kvs.length, .int .i64 ws, .int .i64 wn, .int .i64 wx]) ∧ Keep W w' from fun W hk => by
          have := tre_fold (hT.kept hk) (by omega) 0 4294967295; rwa [all_in hrg, hfw] at this)
        have HMG := Lib.hid (show ∀ W, Calls Try.prog 24 #[.agg #[.int .i64 ac, .int .i64 as1, .int .i64 an, .int .i64 ax], .agg #[.int .i64 bc, .int .i64 bs, .int .i64 bn, .int .i64 bx]] W fun e w' => e = .returned (.agg #[.int .i64 fc, .int .i64 fs, .int .i64 fn, .int .i64 fx]) ∧ Keep W w' from fun W => by
          have := rmerge_any ⟨ac, as1, an, ax⟩ ⟨bc, bs, bn, bx⟩ W; rwa [hm] at this)
        have HPR := Lib.hid (show ∀ W, Keep wr W → Calls Try.prog 23 #[.pointer (some ⟨W0.heap.size + 1, 0, none⟩), .int .i64 1000] W fun e w' => (∃ A c, e = .returned (.slice A kvs.length c)) ∧ Keep W w' from fun W hk => by
          refine (pairs_some (hT.kept hk) (by omega) 1000 (by decide) (by decide)).mono ?_
          rintro e w' ⟨A1, c1, rfl, -, hk'⟩
          rw [List.take_of_length_le (show kvs.length ≤ 1000 by omega)]
          exact ⟨⟨A1, c1, rfl⟩, hk'⟩)
        have HLCe := Lib.hid hlc
        have HLS := Lib.hid hls
        have HFAe := Lib.hid hfa
        have HFLe := Lib.hid hfl
        have HFBe := Lib.hid hfb
        have HAC := Lib.hid (show 0 ≤ ac ∧ ac ≤ kvs.length by omega)
        clear hT hn hkl hl0 hn0 hrg hrs hfa hfb hff hfl hfw hm hlc hls hac hal hkv hn1
        go_wp2_with fail
        have hV1 : Keep wr (wr.alloc (.cells #[.int .u32 0, .int .u32 4294967295] 36)) := (Keep.refl wr).alloc _
        have hB1 := SpB.new wr 0 4294967295
        generalize wr.alloc (.cells #[.int .u32 0, .int .u32 4294967295] 36) = V1 at *
        refine (HFW.out _ hV1).mono ?_
        rintro e w2 ⟨rfl, hk2⟩
        have hV2 := (hV1.trans hk2).alloc (.cells #[.int .i64 kvs.length, .int .i64 ws, .int .i64 wn, .int .i64 wx] 38)
        have hB1' := (hB1.keep hk2).keep ((Keep.refl w2).alloc (.cells #[.int .i64 kvs.length, .int .i64 ws, .int .i64 wn, .int .i64 wx] 38))
        have hB2 := AgAt.new w2 ⟨kvs.length, ws, wn, wx⟩
        have hz1 : wr.heap.size < w2.heap.size := hB1.keep hk2 |>.lt
        have HZ1 := Lib.hid hz1
        clear hV1 hB1 hk2 hz1
        have HV2 := Lib.hid hV2
        have HB1 := Lib.hid hB1'
        have HB2 := Lib.hid hB2
        clear hV2 hB1' hB2
        go_wp2_with fail
        generalize w2.alloc (.cells #[.int .i64 kvs.length, .int .i64 ws, .int .i64 wn, .int .i64 wx] 38) = V2 at *
        refine (HFA.out _ HV2.out).mono ?_
        rintro e w3 ⟨rfl, hk3⟩
        have hV3 := HV2.out.trans hk3
        have h31 := HB1.out.keep hk3
        have h32 := HB2.out.keep hk3
        clear HV2 HB1 HB2 hk3
        have HV3 := Lib.hid hV3
        have HB1 := Lib.hid h31
        have HB2 := Lib.hid h32
        clear hV3 h31 h32
        go_wp2_with fail
        refine (HFB.out _ HV3.out).mono ?_
        rintro e w4 ⟨rfl, hk4⟩
        have hkab : Keep w4 ((w4.alloc (.cells #[.int .i64 ac, .int .i64 as1, .int .i64 an, .int .i64 ax] 38)).alloc (.cells #[.int .i64 bc, .int .i64 bs, .int .i64 bn, .int .i64 bx] 38)) := ((Keep.refl w4).alloc _).alloc _
        have h41 := (HB1.out.keep hk4).keep hkab
        have h42 := (HB2.out.keep hk4).keep hkab
        have h43 := (AgAt.new w4 ⟨ac, as1, an, ax⟩).keep ((Keep.refl (w4.alloc (.cells #[.int .i64 ac, .int .i64 as1, .int .i64 an, .int .i64 ax] 38))).alloc (.cells #[.int .i64 bc, .int .i64 bs, .int .i64 bn, .int .i64 bx] 38))
        have h44 := AgAt.new (w4.alloc (.cells #[.int .i64 ac, .int .i64 as1, .int .i64 an, .int .i64 ax] 38)) ⟨bc, bs, bn, bx⟩
        rw [World.size_alloc] at h44
        have hV4 := (HV3.out.trans hk4).trans hkab
        have h2lt : w2.heap.size < w4.heap.size := (HB2.out.keep hk4).lt
        have HZ2 := Lib.hid h2lt
        have HV4 := Lib.hid hV4
        clear HV3 HB1 HB2 hk4 hkab hV4 h2lt
        have HB1 := Lib.hid h41
        have HB2 := Lib.hid h42
        have HB3 := Lib.hid h43
        have HB4 := Lib.hid h44
        clear h41 h42 h43 h44
        go_wp2_with fail
        generalize (w4.alloc (.cells #[.int .i64 ac, .int .i64 as1, .int .i64 an, .int .i64 ax] 38)).alloc (.cells #[.int .i64 bc, .int .i64 bs, .int .i64 bn, .int .i64 bx] 38) = V4 at *
        have HBOX := Lib.hid (show ∀ w, Keep V4 w → (w.cell? ⟨w2.heap.size, 0, none⟩ = some (.int .i64 kvs.length) ∧ (w.cell? ⟨w4.heap.size, 0, none⟩ = some (.int .i64 ac) ∧ w.cell? ⟨w4.heap.size, 1, none⟩ = some (.int .i64 as1) ∧ w.cell? ⟨w4.heap.size, 2, none⟩ = some (.int .i64 an) ∧ w.cell? ⟨w4.heap.size, 3, none⟩ = some (.int .i64 ax)) ∧
          (w.cell? ⟨w4.heap.size + 1, 0, none⟩ = some (.int .i64 bc) ∧ w.cell? ⟨w4.heap.size + 1, 1, none⟩ = some (.int .i64 bs) ∧ w.cell? ⟨w4.heap.size + 1, 2, none⟩ = some (.int .i64 bn) ∧ w.cell? ⟨w4.heap.size + 1, 3, none⟩ = some (.int .i64 bx))) from fun w hk => ⟨(HB2.out.keep hk).cells.1, (HB3.out.keep hk).cells, (HB4.out.keep hk).cells⟩)
        have q1 := equal_ag fc fs fn fx
        have hKc := (Keep.refl V4).drew
        refine seq_region (S := fun w' => Keep V4 w') [⟨0, 512, 590295810358705651712⟩, ⟨0, 2, 1180591620717411303424⟩, ⟨0, 8, 2361183241434822606848⟩, ⟨6, 3541774862152233910272, 4722366482869645213696⟩, ⟨9, 5312662293228350865408, 9444732965739290427392⟩, ⟨0, 32768, 18889465931478580854784⟩, ⟨0, 65536, 37778931862957161709568⟩, ⟨112, 56668397794435742564352, 75557863725914323419136⟩, ⟨144, 85002596691653613846528, 151115727451828646838272⟩, ⟨384, 151115727451828646838272, 302231454903657293676544⟩, ⟨512, 302231454903657293692928, 604462909807314587353088⟩, ⟨1536, 906694364710971881029632, 1208925819614629174706176⟩, ⟨512, 302231454903657293677056, 2417851639229258349412352⟩, ⟨4608, 2720083094132915643088896, 4835703278458516698824704⟩, ⟨8704, 5137934733362173992501248, 9671406556917033397649408⟩, ⟨18944, 11182563831435319866032128, 19342813113834066795298816⟩, ⟨33280, 19645044568737724088975360, 38685626227668133590597632⟩] [(0, false), (1, false), (2, false), (3, false), (5, false), (6, false), (4, true), (7, true), (8, false), (9, false), (10, false), (11, false), (12, false), (13, true), (14, false), (15, false), (16, false)] rfl (by kernel_rfl) (by kernel_rfl) (fun _ _ d _ _ h => by cases d <;> exact h) hKc ?_
        simp only [rowsOf, rowAt, gslot, List.map_cons, List.map_nil, List.getElem?_toArray, List.getElem?_cons_zero, List.getElem?_cons_succ]
        repeat (first
          | (refine seq_take (v := ?_) (a' := ?_) (by rfl) ?_ ?_ ?_
             rotate_left 2
             · (intro w hSw; have hcs := HBOX.out w hSw; clear hSw; go_split_ands; go_simp; with_reducible rfl)
             · (simp only [Act.put, List.setIfInBounds_toArray, List.set_cons_zero, List.set_cons_succ]; with_reducible rfl)))
        refine seq_callR (R := fun _ => True) (f := 18) (args := ?_) (v := ?_) (a' := ?_) (by rfl) (by rfl) (by rfl) Try.call18 ?_ ?_ ?_ ?_
        rotate_left 3
        · (go_simp; with_reducible rfl)
        · ((with_reducible refine Calls.mono (HFF.out _ (HV4.out.trans hKc)) ?_)
           rintro e w' ⟨rfl, hk⟩
           refine ⟨?_, hKc.trans hk, trivial⟩
           with_reducible rfl)
        · (simp only [Act.put, List.setIfInBounds_toArray, List.set_cons_zero, List.set_cons_succ]; with_reducible rfl)
        clear hKc
        intro wn hKc _
        repeat (first
          | (refine seq_take (v := ?_) (a' := ?_) (by rfl) ?_ ?_ ?_
             rotate_left 2
             · (intro w hSw; have hcs := HBOX.out w hSw; clear hSw; go_split_ands; go_simp; with_reducible rfl)
             · (simp only [Act.put, List.setIfInBounds_toArray, List.set_cons_zero, List.set_cons_succ]; with_reducible rfl)))
        refine seq_callR (R := fun _ => True) (f := 24) (args := ?_) (v := ?_) (a' := ?_) (by rfl) (by rfl) (by rfl) Try.call24 ?_ ?_ ?_ ?_
        rotate_left 3
        · (go_simp; with_reducible rfl)
        · ((with_reducible refine Calls.mono (HMG.out _) ?_)
           rintro e w' ⟨rfl, hk⟩
           refine ⟨?_, hKc.trans hk, trivial⟩
           with_reducible rfl)
        · (simp only [Act.put, List.setIfInBounds_toArray, List.set_cons_zero, List.set_cons_succ]; with_reducible rfl)
        clear hKc
        intro wn hKc _
        repeat (first
          | (refine seq_take (v := ?_) (a' := ?_) (by rfl) ?_ ?_ ?_
             rotate_left 2
             · (intro w hSw; have hcs := HBOX.out w hSw; clear hSw; go_split_ands; go_simp; with_reducible rfl)
             · (simp only [Act.put, List.setIfInBounds_toArray, List.set_cons_zero, List.set_cons_succ]; with_reducible rfl)))
        refine seq_callX (R := fun v _ => ∃ A c, v = .slice A kvs.length c) (f := 23) (args := ?_) (by rfl) (by rfl) (by rfl) Try.call23 ?_ ?_ ?_
        rotate_left 1
        · (go_simp; with_reducible rfl)
        · ((with_reducible refine Calls.mono (HPR.out _ (HV4.out.trans hKc)) ?_)
           rintro e w' ⟨⟨A1, c1, rfl⟩, hk⟩
           exact ⟨_, rfl, hKc.trans hk, A1, c1, rfl⟩)
        clear hKc
        intro v w6 hKc ⟨A1, c1, hv⟩
        subst hv
        simp only [Act.put, List.setIfInBounds_toArray, List.set_cons_zero, List.set_cons_succ]
        repeat (first
          | (refine seq_take (v := ?_) (a' := ?_) (by rfl) ?_ ?_ ?_
             rotate_left 2
             · (intro w hSw; have hcs := HBOX.out w hSw; clear hSw; go_split_ands; go_simp; with_reducible rfl)
             · (simp only [Act.put, List.setIfInBounds_toArray, List.set_cons_zero, List.set_cons_succ]; with_reducible rfl)))
        refine seq_nil ?_
        have h61 := HB1.out.keep hKc
        have h62 := HB2.out.keep hKc
        have h63 := HB3.out.keep hKc
        have h64 := HB4.out.keep hKc
        have hV6 := HV4.out.trans hKc
        have hz4 : w4.heap.size + 1 < w6.heap.size := h64.lt
        have hT6 := (HT.out.keep hV6).mono (Pr' := fun k => wr.heap.size ≤ k ∧ k < w6.heap.size) (fun k h => .inr h)
        have hkill := tre_kill hT6 (by have := HKV.out; omega) lo cut
        rw [HFAe.out] at hkill
        have hrg := hT6.range
        obtain ⟨kv2, hkv2⟩ : ∃ kv2, kv2 = kvs.filter (fun p => !inS lo cut p) := ⟨_, rfl⟩
        rw [← hkv2] at hkill
        have hf1 : ofL (vs kv2) = ⟨lc, ls, ln, lx⟩ := by rw [hkv2]; exact HFLe.out
        have hf2 : ofL (vs (kv2.filter (inS lo cut))) = nil0 := by rw [hkv2, gone]; rfl
        have hf3 : ofL (vs (kv2.filter (inS (cut + 1) hi))) = ⟨bc, bs, bn, bx⟩ := by rw [hkv2, other]; exact HFBe.out
        have hkl2 : kv2.length ≤ 40 := by rw [hkv2]; exact Nat.le_trans (List.length_filter_le _ _) HKV.out
        have HF1 := Lib.hid hf1
        have HF2 := Lib.hid hf2
        have HF3 := Lib.hid hf3
        have HKL2 := Lib.hid hkl2
        have HKILL := Lib.hid hkill
        have HZ4 := Lib.hid hz4
        have HV6 := Lib.hid hV6
        clear HB1 HB2 HB3 HB4 hV6 hz4 hT6 hkill hrg hkv2 hf1 hf2 hf3 hkl2 HBOX q1 hKc HFA HFB HFF HFW HMG HPR HFAe HFBe HFLe
        have HB1 := Lib.hid h61
        have HB2 := Lib.hid h62
        have HB3 := Lib.hid h63
        have HB4 := Lib.hid h64
        clear h61 h62 h63 h64
        go_wp2_with fail
        refine HKILL.out.mono ?_
        rintro e w7 ⟨rfl, hT7, ho7⟩
        have h71 := HB1.out.only ho7 (fun h => h ⟨Nat.le_refl _, by have := HZ1.out; have := HZ2.out; have := HZ4.out; omega⟩)
        have h72 := agat_only HB2.out ho7 (fun h => h ⟨by have := HZ1.out; omega, by have := HZ1.out; have := HZ2.out; have := HZ4.out; omega⟩)
        have h73 := agat_only HB3.out ho7 (fun h => h ⟨by have := HZ1.out; have := HZ2.out; omega, by have := HZ4.out; omega⟩)
        have h74 := agat_only HB4.out ho7 (fun h => h ⟨by have := HZ1.out; have := HZ2.out; omega, by have := HZ4.out; omega⟩)
        have hT7' := hT7.mono (Pr' := fun _ => False) (fun k h => h.elim)
        clear HB1 HB2 HB3 HB4 HKILL hT7 ho7
        have HT7 := Lib.hid hT7'
        have HB2 := Lib.hid h72
        have HB3 := Lib.hid h73
        have HB4 := Lib.hid h74
        clear h72 h73 h74 hT7'
        obtain ⟨y0, y1⟩ := h71.cells
        clear h71
        dsimp only
        go_wp2_with fail
        have hfw := tre_fold HT7.out (by have := HKL2.out; omega) 0 4294967295
        rw [all_in HT7.out.range, HF1.out] at hfw
        refine hfw.mono ?_
        rintro e w8 ⟨rfl, hk8⟩
        clear y0 y1 hfw
        have hk8' := hk8.alloc (.cells #[.int .i64 lc, .int .i64 ls, .int .i64 ln, .int .i64 lx] 38)
        have h85 := AgAt.new w8 ⟨lc, ls, ln, lx⟩
        have h82 := HB2.out.keep hk8'
        have h83 := HB3.out.keep hk8'
        have h84 := HB4.out.keep hk8'
        have hT8 := HT7.out.kept hk8'
        clear HB2 HB3 HB4 HT7 hk8 hk8'
        have HT8 := Lib.hid hT8
        have HB2 := Lib.hid h82
        have HB3 := Lib.hid h83
        have HB4 := Lib.hid h84
        have HB5 := Lib.hid h85
        clear h82 h83 h84 h85 hT8
        dsimp only
        go_wp2_with fail
        generalize w8.alloc (.cells #[.int .i64 lc, .int .i64 ls, .int .i64 ln, .int .i64 lx] 38) = V8 at *
        have HBOX := Lib.hid (show ∀ w, Keep V8 w → ((w.cell? ⟨w2.heap.size, 0, none⟩ = some (.int .i64 kvs.length) ∧ w.cell? ⟨w2.heap.size, 1, none⟩ = some (.int .i64 ws)) ∧ (w.cell? ⟨w4.heap.size, 0, none⟩ = some (.int .i64 ac) ∧ w.cell? ⟨w4.heap.size, 1, none⟩ = some (.int .i64 as1)) ∧
          (w.cell? ⟨w8.heap.size, 0, none⟩ = some (.int .i64 lc) ∧ w.cell? ⟨w8.heap.size, 1, none⟩ = some (.int .i64 ls)) ∧
          (w.cell? ⟨w4.heap.size + 1, 0, none⟩ = some (.int .i64 bc) ∧ w.cell? ⟨w4.heap.size + 1, 1, none⟩ = some (.int .i64 bs) ∧ w.cell? ⟨w4.heap.size + 1, 2, none⟩ = some (.int .i64 bn) ∧ w.cell? ⟨w4.heap.size + 1, 3, none⟩ = some (.int .i64 bx))) from fun w hk => ⟨⟨(HB2.out.keep hk).cells.1, (HB2.out.keep hk).cells.2.1⟩, ⟨(HB3.out.keep hk).cells.1, (HB3.out.keep hk).cells.2.1⟩, ⟨(HB5.out.keep hk).cells.1, (HB5.out.keep hk).cells.2.1⟩, (HB4.out.keep hk).cells⟩)
        have q1 := equal_ag bc bs bn bx
        have q0 := equal_ag 0 0 0 0
        have hKc := (Keep.refl V8).drew
        have hlc1 : IntKind.i64.wrap ((kvs.length : Int) - ac) = lc := by
          have : wrap64 ((kvs.length : Int) - ac) = lc := by rw [HLCe.out]; exact wr_id (by unfold inI; have := HAC.out; have := HKV.out; omega)
          simpa only [IntKind.wrap_i64, wrap64] using this
        have hls1 : IntKind.i64.wrap (ws - as1) = ls := by simpa only [IntKind.wrap_i64, wrap64] using HLS.out
        have hwr2 : IntKind.u32.wrap (cut + 1) = cut + 1 := by rw [IntKind.wrap_u32]; exact hwr
        have HC2 := Lib.hid (show ∀ W, Keep V8 W → Calls Try.prog 18 #[.pointer (some ⟨W0.heap.size + 1, 0, none⟩), .agg #[.int .u32 lo, .int .u32 cut]] W fun e w' => e = .returned (.agg #[.int .i64 0, .int .i64 0, .int .i64 0, .int .i64 0]) ∧ Keep W w' from fun W hk => by
          have := tre_fold (HT8.out.kept hk) (by have := HKL2.out; omega) lo cut; rwa [HF2.out] at this)
        have HC3 := Lib.hid (show ∀ W, Keep V8 W → Calls Try.prog 18 #[.pointer (some ⟨W0.heap.size + 1, 0, none⟩), .agg #[.int .u32 (cut + 1), .int .u32 hi]] W fun e w' => e = .returned (.agg #[.int .i64 bc, .int .i64 bs, .int .i64 bn, .int .i64 bx]) ∧ Keep W w' from fun W hk => by
          have := tre_fold (HT8.out.kept hk) (by have := HKL2.out; omega) (cut + 1) hi; rwa [HF3.out] at this)
        refine seq_region (S := fun w' => Keep V8 w') [⟨0, 131072, 19807040628566084398385987584⟩, ⟨0, 32768, 39614081257132168796771975168⟩, ⟨2, 39614081257132168796771975168, 79228162514264337593543950336⟩, ⟨5, 99035203142830421991929937920, 158456325028528675187087900672⟩, ⟨8, 158456325028528675187087900672, 316912650057057350374175801344⟩, ⟨16, 316912650057057350374176063488, 633825300114114700748351602688⟩, ⟨48, 950737950171172051122527404032, 1267650600228229401496703205376⟩, ⟨16, 316912650057057350374175817728, 2535301200456458802993406410752⟩, ⟨144, 2852213850513516153367582212096, 5070602400912917605986812821504⟩, ⟨16, 316912650057057350374175932416, 10141204801825835211973625643008⟩, ⟨784, 15528719852795810168334614265856, 20282409603651670423947251286016⟩, ⟨1104, 21866972853936957175818130292736, 40564819207303340847894502572032⟩, ⟨2064, 40881731857360398198268678373376, 81129638414606681695789005144064⟩, ⟨4112, 81129638414606681695789005144064, 162259276829213363391578010288128⟩, ⟨8192, 162259276829213363391578010550272, 324518553658426726783156020576256⟩, ⟨24576, 486777830487640090174734030864384, 649037107316853453566312041152512⟩, ⟨8192, 162259276829213363391578010304512, 1298074214633706907132624082305024⟩, ⟨73728, 1460333491462920270524202092593152, 2596148429267413814265248164610048⟩, ⟨8192, 162259276829213363391578010320896, 5192296858534827628530496329220096⟩, ⟨270336, 5354556135364040991922074339508224, 10384593717069655257060992658440192⟩, ⟨663552, 13143001423166282434717818833338368, 20769187434139310514121985316880384⟩, ⟨1089536, 21580483818285377331079875368321024, 41538374868278621028243970633760768⟩, ⟨2105344, 41700634145107834391635548644048896, 83076749736557242056487941267521536⟩, ⟨4202496, 83076749736557242056487941267521536, 166153499473114484112975882535043072⟩, ⟨8388608, 166153499473114484112975882535043584, 332306998946228968225951765070086144⟩, ⟨8388608, 166153499473114484112975882535043074, 664613997892457936451903530140172288⟩, ⟨8388608, 166153499473114484112975882535043076, 1329227995784915872903807060280344576⟩, ⟨109051904, 2159995493150488293468686472955559936, 2658455991569831745807614120560689152⟩, ⟨159383552, 3156916489989175198146541768165818368, 5316911983139663491615228241121378304⟩, ⟨8388608, 166153499473114484112975882535043072, 10633823966279326983230456482242756608⟩, ⟨813694976, 16116889448892104958958660605899177984, 21267647932558653966460912964485513216⟩, ⟨1082130432, 21433801432031768450573888847020556288, 42535295865117307932921825928971026432⟩, ⟨2415919104, 42535295865117307932921825928971026432, 85070591730234615865843651857942052864⟩, ⟨4294967296, 85070591730234615865843651857942053376, 170141183460469231731687303715884105728⟩, ⟨4294967296, 85070591730234615865843651857942052868, 340282366920938463463374607431768211456⟩, ⟨21474836480, 425352958651173079329218259289710264320, 680564733841876926926749214863536422912⟩, ⟨4294967296, 85070591730234615865843651857942052872, 1361129467683753853853498429727072845824⟩, ⟨107374182400, 2126764793255865396646091296448551321600, 2722258935367507707706996859454145691648⟩, ⟨150323855360, 2977470710558211555304527815027971850240, 5444517870735015415413993718908291383296⟩, ⟨4294967296, 85070591730234615865843651857942118400, 10889035741470030830827987437816582766592⟩, ⟨828928688128, 16418624203935280862107824808582816202752, 21778071482940061661655974875633165533184⟩, ⟨1103806595072, 21863142074670296277521818527491107586048, 43556142965880123323311949751266331066368⟩] [(0, false), (1, false), (2, false), (3, false), (4, false), (5, false), (6, false), (7, false), (8, false), (9, false), (10, false), (11, false), (12, false), (13, false), (14, false), (15, false), (16, false), (17, false), (18, false), (19, false), (20, false), (21, false), (22, false), (23, false), (24, false), (25, false), (26, false), (27, false), (29, false), (28, true), (30, false), (31, false), (32, false), (33, false), (34, false), (35, false), (36, false), (37, false), (39, false), (38, true), (40, false), (41, false)] rfl (by kernel_rfl) (by kernel_rfl) (fun _ _ d _ _ h => by cases d <;> exact h) hKc ?_
        simp only [rowsOf, rowAt, gslot, List.map_cons, List.map_nil, List.getElem?_toArray, List.getElem?_cons_zero, List.getElem?_cons_succ]
        repeat (first
          | (refine seq_take (v := ?_) (a' := ?_) (by rfl) ?_ ?_ ?_
             rotate_left 2
             · (intro w hSw; have hcs := HBOX.out w hSw; clear hSw; go_split_ands; go_simp; with_reducible rfl)
             · (simp only [Act.put, List.setIfInBounds_toArray, List.set_cons_zero, List.set_cons_succ]; with_reducible rfl)))
        refine seq_callR (R := fun _ => True) (f := 18) (args := ?_) (v := ?_) (a' := ?_) (by rfl) (by rfl) (by rfl) Try.call18 ?_ ?_ ?_ ?_
        rotate_left 3
        · (go_simp; with_reducible rfl)
        · ((with_reducible refine Calls.mono (HC2.out _ hKc) ?_)
           rintro e w' ⟨rfl, hk⟩
           refine ⟨?_, hKc.trans hk, trivial⟩
           with_reducible rfl)
        · (simp only [Act.put, List.setIfInBounds_toArray, List.set_cons_zero, List.set_cons_succ]; with_reducible rfl)
        clear hKc
        intro wn hKc _
        repeat (first
          | (refine seq_take (v := ?_) (a' := ?_) (by rfl) ?_ ?_ ?_
             rotate_left 2
             · (intro w hSw; have hcs := HBOX.out w hSw; clear hSw; go_split_ands; go_simp; with_reducible rfl)
             · (simp only [Act.put, List.setIfInBounds_toArray, List.set_cons_zero, List.set_cons_succ]; with_reducible rfl)))
        refine seq_callR (R := fun _ => True) (f := 18) (args := ?_) (v := ?_) (a' := ?_) (by rfl) (by rfl) (by rfl) Try.call18 ?_ ?_ ?_ ?_
        rotate_left 3
        · (go_simp; with_reducible rfl)
        · ((with_reducible refine Calls.mono (HC3.out _ hKc) ?_)
           rintro e w' ⟨rfl, hk⟩
           refine ⟨?_, hKc.trans hk, trivial⟩
           with_reducible rfl)
        · (simp only [Act.put, List.setIfInBounds_toArray, List.set_cons_zero, List.set_cons_succ]; with_reducible rfl)
        clear hKc
        intro wn hKc _
        repeat (first
          | (refine seq_take (v := ?_) (a' := ?_) (by rfl) ?_ ?_ ?_
             rotate_left 2
             · (intro w hSw; have hcs := HBOX.out w hSw; clear hSw; go_split_ands; go_simp; with_reducible rfl)
             · (simp only [Act.put, List.setIfInBounds_toArray, List.set_cons_zero, List.set_cons_succ]; with_reducible rfl)))
        refine seq_nil ?_
        have hT9 := HT8.out.kept hKc
        have HKE := Lib.hid (HK0.out.trans hT9.keepW)
        have HT9 := Lib.hid hT9
        clear q0 q1 hlc1 hls1 HC2 HC3 HBOX hKc HB2 HB3 HB4 HB5 HT8 hT9 hwr hwr2 HT HF1 HF2 HF3 HV4 HV6 HZ1 HZ2 HZ4 HLCe HLS HAC
        go_wp2_with fail
        refine (tre_nodes HT9.out).mono ?_
        rintro e w10 ⟨rfl, rfl⟩
        by_cases hk0 : k = 0
        · subst hk0
          have hz := HN0.out rfl
          subst hz
          have hd0 : decide ((0 : Int) < 0) = false := by decide
          go_wp2_with fail
          refine (tre_nodes HT9.out).mono ?_
          rintro e w11 ⟨rfl, rfl⟩
          go_wp2
          go_ret
          exact ⟨rfl, HKE.out⟩
        · have hd0 : decide ((0 : Int) < (k : Int)) = true := decide_eq_true (by omega)
          have hd1 : ((k : Int) == 0) = false := by rw [beq_eq_false_iff_ne]; omega
          obtain ⟨b, off, e, hb, hc⟩ := HR.out.2.1.2 (by omega)
          subst e
          have hzl : zs.length = k := by have := HR.out.2.1.1; rwa [vals_length] at this
          obtain ⟨z0, hz0⟩ : ∃ z0, zs.getD 0 0 = z0 := ⟨_, rfl⟩
          have hz1 : zs[0]? = some z0 := by
            rw [List.getD_eq_getElem?_getD, List.getElem?_eq_getElem (by omega)] at hz0
            rw [List.getElem?_eq_getElem (by omega)]
            simpa using hz0
          have hvr := bounds_u32' (HR.out.2.2 z0 (List.mem_of_getElem? hz1))
          have c0 : ∀ W, Keep w W → W.cell? ⟨b, off, none⟩ = some (.int .u32 z0) := fun W hW => by
            have := hc 0 (by omega)
            rw [Nat.add_zero] at this
            rw [hW.cell (p := ⟨b, off, none⟩) hb, this, vals_getD _ _ _ (by omega), hz0]
          have hl0 : lack 32 0 z0 t = 0 := by have := HL0.out (by omega); rwa [hz0] at this
          have hput := tre_put_yes HT9.out (key := z0) (v := 77) (by have := HKL2.out; omega) hvr.1 hvr.2 ⟨by decide, by decide⟩ (by rw [hl0]; have := HN.out; omega)
          rw [hl0, Nat.add_zero] at hput
          obtain ⟨kv3, hkv3⟩ : ∃ kv3, kv3 = insK z0 77 kv2 := ⟨_, rfl⟩
          obtain ⟨t3, ht3⟩ : ∃ t3, t3 = grow 32 0 z0 n t := ⟨_, rfl⟩
          rw [← hkv3, ← ht3] at hput
          have HPUT := Lib.hid hput
          have HC0 := Lib.hid c0
          have HK3 := Lib.hid (show kv3.length ≤ 41 from by rw [hkv3]; exact insK_len HKL2.out)
          have HO3 := Lib.hid (show ofL (vs (kv3.filter (inS z0 z0))) = ⟨1, 77, 77, 77⟩ from by rw [hkv3, insK_at]; rfl)
          have c1 := c0 _ HKE.out
          clear hput hkv3 ht3 hl0 hvr hz1 hz0 hzl hc c0
          go_wp2_with fail
          refine HPUT.out.mono ?_
          rintro e w11 ⟨rfl, hT11, -⟩
          have HT11 := Lib.hid hT11
          have c2 := HC0.out _ (HK0.out.trans hT11.keepW)
          clear hT11 c1 HPUT
          go_wp2_with fail
          refine (tre_get HT11.out (by have := HK3.out; omega) z0 ⟨1, 77, 77, 77⟩ HO3.out true (by decide)).mono ?_
          rintro e w12 ⟨rfl, hk12⟩
          have HT12 := Lib.hid (HT11.out.kept hk12)
          clear HT11 hk12 c2 HT9
          go_wp2_with fail
          refine (tre_nodes HT12.out).mono ?_
          rintro e w13 ⟨rfl, rfl⟩
          go_wp2_with fail
          have hkl := tre_kill HT12.out (by have := HK3.out; omega) 1 0
          rw [none_in] at hkl
          refine hkl.mono ?_
          rintro e w14 ⟨rfl, hT14, -⟩
          have HKF := Lib.hid (HK0.out.trans hT14.keepW)
          clear hT14 hkl
          rw [show (ofL (vs [])).c = 0 from rfl]
          go_wp2
          go_ret
          exact ⟨rfl, HKF.out⟩
  · rcases Nat.lt_or_ge 40 len with h40 | h40
    · have hlI : decide (40 < (len : Int)) = true := decide_eq_true (by omega)
      clear hg h40
      go_enter Try.func4, Try.ntmps4
      go_wp2_with fail
      refine (alive_any w).mono ?_
      rintro e W0 ⟨rfl, hk0⟩
      have HK0 := Lib.hid hk0
      clear hk0
      go_wp2
      go_ret
      exact ⟨rfl, HK0.out⟩
    · have hlI : decide (40 < (len : Int)) = false := decide_eq_false (by omega)
      by_cases hlc : cut < lo
      · have hg1 : decide (cut < lo) = true := decide_eq_true hlc
        clear hg h40 hlc
        go_enter Try.func4, Try.ntmps4
        go_wp2_with fail
        refine (alive_any w).mono ?_
        rintro e W0 ⟨rfl, hk0⟩
        have HK0 := Lib.hid hk0
        clear hk0
        go_wp2
        go_ret
        exact ⟨rfl, HK0.out⟩
      · have hg1 : decide (cut < lo) = false := decide_eq_false hlc
        have hg2 : decide (hi ≤ cut) = true := decide_eq_true (by omega)
        clear hg h40 hlc
        go_enter Try.func4, Try.ntmps4
        go_wp2_with fail
        refine (alive_any w).mono ?_
        rintro e W0 ⟨rfl, hk0⟩
        have HK0 := Lib.hid hk0
        clear hk0
        go_wp2
        go_ret
        exact ⟨rfl, HK0.out⟩
end Go.Proofs.Ytopengbflnoneaa
