/- SegtreeKills: a walk. -/
import Derived.Test.YtopengbflnoneaaSegAlive
import Derived.Test.YtopengbflnoneaaSegArg
import Derived.Test.YtopengbflnoneaaSegTwo
import Derived.Test.YtopengbflnoneaaIvlMake
import Derived.Test.YtopengbflnoneaaArr2
import Derived.Lib.SmallJoins
namespace Go.Proofs.Ytopengbflnoneaa
open Go.RowKit Go.Joins Go.Deep Go.ChangeShapes Go.WideShapes

/-- The spans of an argument. -/
def SpA (w : World) (a : Option Addr) (len cap : Nat) (zs : List Iv.Sp) : Prop := len ≤ maxLen ∧ Iv.SpS w w.heap.size a len zs ∧ (a = none → cap = 0) ∧ ∀ s ∈ zs, s.ok
set_option maxRecDepth 100000 in
theorem open_arg63 {H : Type} {w : World} {held : Bool} (enc : TypeId × Value → H) {a : Option Addr} {len cap : Nat} {d : DataW H} {p : List MemPlace} (h : DataW.Trod enc Try.prog w 0 (fun _ => true) held 63 (.slice a len cap) d p) : ∃ zs, SpA w a len cap zs := by
  obtain ⟨fuel, hf⟩ := h
  obtain ⟨f0, f1, he, o0, o1, t0, t1, _, _⟩ := Iv.spFields
  have k0 : Try.prog.cellsOf f0.type = 1 := by rw [t0]; kernel_rfl
  have k1 : Try.prog.cellsOf f1.type = 1 := by rw [t1]; kernel_rfl
  have ce : Try.prog.cellsOf 36 = 2 := by kernel_rfl
  rcases open_slice Try.underlying63 hf with ⟨hcs, _⟩ | ⟨ad, l, c, m, n, D, Pl, hcs, _, hl, hm, hmm, _, hx⟩
  · simp [Value.cells] at hcs
    obtain ⟨rfl, rfl, rfl⟩ := hcs
    exact ⟨[], Nat.zero_le _, ⟨rfl, fun j z h => by cases h⟩, fun _ => rfl, fun s h => by cases h⟩
  · simp [Value.cells] at hcs
    obtain ⟨rfl, rfl, rfl⟩ := hcs
    have hlm : len ≤ m := by rw [hmm]; simpa using hl
    have hsp : 0 < m → ad.spot = none := by
      intro h0
      obtain ⟨cs', h1, _⟩ := hx 0 h0
      rw [ce] at h1
      obtain ⟨_, hlen, hcell⟩ := World.cells?_some h1
      match cs', hlen with
      | v0 :: rest, _ =>
        have e0 := hcell 0 (by omega)
        simp only [add_add] at e0
        have := World.cell?_spot e0
        simpa [Addr.add] using this
    have each : ∀ i, i < len → ∃ o : Iv.Sp, o.ok ∧ ∃ b off, some ad = some ⟨b, off, none⟩ ∧ b < w.heap.size ∧ w.cell? ⟨b, off + i * 2, none⟩ = some (.int .u32 o.lo) ∧ w.cell? ⟨b, off + i * 2 + 1, none⟩ = some (.int .u32 o.hi) := by
      intro i hi
      obtain ⟨cs', h1, h2⟩ := hx i (by omega)
      rw [ce] at h1
      obtain ⟨_, hlen, hcell⟩ := World.cells?_some h1
      obtain ⟨xs, k, hk, hxy, _, hxl, hfl⟩ := DataW.trod_struct he h2
      match xs, hxl, cs', hlen with
      | [y0, y1], _, [v0, v1], _ =>
        have g0 := hfl 0 f0 rfl
        have g1 := hfl 1 f1 rfl
        simp [o0, o1, k0, k1] at g0 g1
        rw [t0] at g0
        rw [t1] at g1
        obtain ⟨n0, q0, _, wf0⟩ := DataW.trod_int Try.underlying32 g0
        obtain ⟨n1, q1, _, wf1⟩ := DataW.trod_int Try.underlying32 g1
        simp only [List.cons.injEq, and_true] at q0 q1
        subst q0 q1
        have e0 := hcell 0 (by omega)
        have e1 := hcell 1 (by omega)
        simp only [add_add] at e0 e1
        obtain ⟨b, off, spot⟩ := ad
        have hspot : spot = none := hsp (by omega)
        subst hspot
        simp only [Iv.addr_add] at e0 e1
        have b0 := bounds_u32' wf0
        have b1 := bounds_u32' wf1
        refine ⟨⟨n0, n1⟩, ⟨⟨by dsimp only; omega, by dsimp only; omega⟩, by dsimp only; omega, by dsimp only; omega⟩, b, off, rfl, World.block_lt_of_cell? w _ e0, ?_, ?_⟩
        · simpa using e0
        · simpa [Nat.add_assoc] using e1
    haveI : Inhabited Iv.Sp := ⟨⟨0, 0⟩⟩
    obtain ⟨q, hq⟩ := choose_lt each
    refine ⟨(List.range len).map q, by omega, ⟨by simp, fun i o hi => ?_⟩, (fun h => by cases h), fun y hy => ?_⟩
    · obtain ⟨hlt, rfl⟩ := List.getElem?_eq_some_iff.1 hi
      rw [List.getElem_map, List.getElem_range]
      exact (hq i (by simpa using hlt)).2
    · obtain ⟨i, hi, rfl⟩ := List.mem_map.1 hy
      exact (hq i (by simpa using hi)).1
/-- What spans leave. -/
def kil (ss : List Iv.Sp) (kvs : List (Int × Int)) : List (Int × Int) := kvs.filter (fun p => !Iv.hasB ss p.1)
theorem kil_nil (kvs : List (Int × Int)) : kil [] kvs = kvs := by
  unfold kil
  rw [List.filter_eq_self]
  intro p _
  rfl
theorem kil_next {ss : List Iv.Sp} {j : Nat} {s : Iv.Sp} (h : ss[j]? = some s) (kvs : List (Int × Int)) : kil (ss.take (j + 1)) kvs = (kil (ss.take j) kvs).filter (fun p => !inS s.lo s.hi p) := by
  unfold kil
  rw [List.filter_filter, List.take_add_one, h]
  congr 1
  funext p
  simp [Iv.hasB, inS, Bool.and_comm]
theorem kil_same {r ss : List Iv.Sp} (h : ∀ k, Iv.mem r k ↔ Iv.mem ss k) (kvs : List (Int × Int)) : kil r kvs = kil ss kvs := by
  unfold kil
  congr 1
  funext p
  have : Iv.hasB r p.1 = Iv.hasB ss p.1 := by rw [Bool.eq_iff_iff, Iv.hasB_iff, Iv.hasB_iff, h]
  rw [this]
theorem kil_le (ss : List Iv.Sp) (kvs : List (Int × Int)) : (kil ss kvs).length ≤ kvs.length := List.length_filter_le _ _
theorem again (f : Int × Int → Bool) (kvs : List (Int × Int)) : (kvs.filter (fun p => !f p)).filter (fun p => !f p) = kvs.filter (fun p => !f p) := by
  rw [List.filter_filter]
  congr 1
  funext p
  simp
set_option maxRecDepth 100000 in
set_option maxHeartbeats 8000000 in
theorem SegtreeKills_std (A : Option Addr) (len cap : Nat) (zs : List Int) (B : Option Addr) (ln cp : Nat) (ss : List Iv.Sp) (w : World) (row : Arr .u32 w A len zs) (row1 : SpA w B ln cp ss) :
    Calls Try.prog 6 #[.slice A len cap, .slice B ln cp] w fun e w' => e = .returned (.bool true) ∧ Below w.heap.size w w' := by
  have HR := Lib.hid row
  have HS := Lib.hid row1
  clear row row1
  by_cases hg : len ≤ 40 ∧ ln ≤ 10
  · obtain ⟨hlen, hln⟩ := hg
    have hlI : decide (40 < (len : Int)) = false := decide_eq_false (by omega)
    have hlJ : decide (10 < (ln : Int)) = false := decide_eq_false (by omega)
    go_enter Try.func6, Try.ntmps6
    go_wp2_with fail
    refine (alive_any w).mono ?_
    rintro e W0 ⟨rfl, hk0⟩
    have HK0 := Lib.hid hk0
    clear hk0
    go_wp2_with fail
    refine (tre_new 1048576 W0 (by decide) (by decide)).mono ?_
    rintro e W1 ⟨rfl, hTa⟩
    have HTa := Lib.hid hTa
    clear hTa
    go_wp2_with fail
    refine (tre_new 1048576 W1 (by decide) (by decide)).mono ?_
    rintro e W2 ⟨rfl, hTb⟩
    have HT := Lib.hid (two_make HTa.out hTb)
    clear HTa hTb hlI hlJ
    go_wp2_with fail
    generalize W0.heap.size + 1 = ba at *
    generalize W1.heap.size + 1 = bb at *
    go_loopw [38] (fun i wr => ∃ k : Nat, i = .int .i64 k ∧ k ≤ len ∧ Hid (∃ n t kvs, Two W0 ba bb 1048576 n t kvs n t kvs (fun _ => False) wr ∧ n ≤ 33 * k ∧ kvs.length ≤ k)) (fun i _ => len - (intOf i).toNat)
    case atStart => exact ⟨0, rfl, by omega, Lib.hid ⟨0, .nil, [], HT.out, by omega, by simp⟩⟩
    case round =>
      obtain ⟨k, rfl, hk, HX⟩ := hrel
      clear HT
      by_cases hlt : k < len
      · obtain ⟨n, t, kvs, hT, hn, hkl⟩ := HX.out
        have hKw : Keep w wr := HK0.out.trans hT.keepW
        obtain ⟨b, off, e, hb, hc⟩ := HR.out.2.1.2 (by omega)
        subst e
        have hzl : zs.length = len := by have := HR.out.2.1.1; rwa [vals_length] at this
        obtain ⟨v, hv⟩ : ∃ v, zs[k]? = some v := ⟨_, List.getElem?_eq_getElem (by omega)⟩
        have hvr := bounds_u32' (HR.out.2.2 v (List.mem_of_getElem? hv))
        have c0 : wr.cell? ⟨b, off + k, none⟩ = some (.int .u32 v) := by
          rw [hKw.cell (p := ⟨b, off + k, none⟩) hb, hc k hlt, vals_getD _ _ _ (by omega)]
          rw [List.getD_eq_getElem?_getD, hv]
          rfl
        have hkI : (k : Int) < (len : Int) := by omega
        have hlk := lack_le 32 0 v t
        have hput := two_put hT (key := v) (v := (k : Int)) (by omega) hvr.1 hvr.2 ⟨by omega, by omega⟩ (by omega)
        have HPUT2 := Lib.hid (show ∀ W, Two W0 bb ba 1048576 n t kvs (n + lack 32 0 v t) (grow 32 0 v n t) (insK v k kvs) (fun _ => False) W → _ from fun W h => two_put h (key := v) (v := (k : Int)) (by omega) hvr.1 hvr.2 ⟨by omega, by omega⟩ (by omega))
        have HPUT := Lib.hid hput
        have HLK := Lib.hid (show n + lack 32 0 v t ≤ 33 * (k + 1) by omega)
        have HKL := Lib.hid (insK_len (key := v) (v := (k : Int)) hkl)
        clear hT hn hkl hKw hc hv hvr hzl hput hlk HX
        go_wp2_with fail
        refine HPUT.out.mono ?_
        rintro e W3 ⟨rfl, hT3, -⟩
        have HT3 := Lib.hid (HPUT2.out W3 hT3.swap)
        clear hT3 HPUT HPUT2 c0
        go_wp2_with fail
        refine HT3.out.mono ?_
        rintro e W4 ⟨rfl, hT4, -⟩
        have HT4 := Lib.hid hT4.swap
        clear hT4 HT3
        go_wp2
        go_roundw
        case rel => exact ⟨k + 1, by go_num, by omega, Lib.hid ⟨_, _, _, HT4.out, HLK.out, HKL.out⟩⟩
        case measure => simp [intOf]; omega
      · have hke : k = len := by omega
        subst hke
        obtain ⟨n, t, kvs, hT, hn, hkl⟩ := HX.out
        have hkI : ¬ (k : Int) < (k : Int) := by omega
        obtain ⟨L, hL⟩ : ∃ L, L = kvs.length := ⟨_, rfl⟩
        have hL40 : L ≤ 40 := by omega
        obtain ⟨fs, fn, fx, hff⟩ : ∃ s n x, ofL (vs kvs) = ⟨L, s, n, x⟩ := by
          have := cnt_of' (two_range hT) (by omega)
          rw [← hL] at this
          exact ⟨(ofL (vs kvs)).s, (ofL (vs kvs)).mn, (ofL (vs kvs)).mx, by rw [← this]⟩
        have hfo := two_fold hT (by omega) 0 4294967295
        rw [all_in (two_range hT), hff] at hfo
        have HFO := Lib.hid hfo
        have HT := Lib.hid hT
        have HLL := Lib.hid hL
        have run1 := run_count ⟨L, fs, fn, fx⟩
        dsimp only at run1
        have hwr : w.heap.size ≤ wr.heap.size := (HK0.out.trans hT.keepW).size
        have HWR := Lib.hid hwr
        clear hT hn hkl HX hlt hk hL hff hfo hwr
        go_wp2_with fail
        refine HFO.out.mono ?_
        rintro e V0 ⟨rfl, hk0⟩
        have HT0 := Lib.hid (HT.out.kept hk0)
        clear HFO HT hk0
        dsimp only
        go_wp2_with fail
        have hcf : ∀ xs : List (Int × Int), xs.length ≤ L → IntKind.i64.wrap ((L : Int) - (xs.length : Int)) = (L : Int) - (xs.length : Int) := fun xs h => by rw [IntKind.wrap_i64]; omega
        have HCF := Lib.hid hcf
        clear hcf run1
        go_loopw [12, 58] (fun nv i X => ∃ j : Nat, i = .int .i64 j ∧ j ≤ ln ∧ nv = .int .i64 ((L : Int) - ((kil (ss.take j) kvs).length : Int)) ∧ Hid (Two W0 ba bb 1048576 n t (kil (ss.take j) kvs) n t kvs (fun _ => False) X)) (fun _ i _ => ln - (intOf i).toNat)
        case atStart => exact ⟨0, rfl, by omega, by rw [List.take_zero, kil_nil, ← HLL.out]; simp, by rw [List.take_zero, kil_nil]; exact HT0⟩
        case round =>
          obtain ⟨j, rfl, hj, rfl, HX⟩ := hrel
          clear HT0
          by_cases hjl : j < ln
          · obtain ⟨s, hs⟩ : ∃ s, ss[j]? = some s := ⟨_, List.getElem?_eq_getElem (by rw [HS.out.2.1.len]; exact hjl)⟩
            have hKw : Keep w wr := HK0.out.trans HX.out.keepW
            obtain ⟨b1, off1, rfl, hb1, c0, c1⟩ := Iv.SpS.cells (HS.out.2.1.up hKw) j s hs
            have hnx := kil_next hs kvs
            obtain ⟨ka, hka⟩ : ∃ ka, ka = kil (ss.take j) kvs := ⟨_, rfl⟩
            obtain ⟨kb, hkb⟩ : ∃ kb, kb = kil (ss.take (j + 1)) kvs := ⟨_, rfl⟩
            rw [← hka] at HX hnx ⊢
            rw [← hkb] at hnx
            have hkaL : ka.length ≤ L := by rw [hka, HLL.out]; exact kil_le _ _
            have hpl := part_len (inS s.lo s.hi) ka
            rw [← hnx] at hpl
            have hT1 := (HX.out.keep ((Keep.refl wr).alloc (.cells #[.int .u32 s.lo, .int .u32 s.hi] 36))).mono (X' := fun k => k = wr.heap.size) (fun k e => .inr (by subst e; simp))
            have hk1 := two_kill hT1 (by omega) s.lo s.hi
            rw [← hnx] at hk1
            have hag : kb.filter (fun p => !inS s.lo s.hi p) = kb := by rw [hnx]; exact again _ _
            have hgo : kb.filter (inS s.lo s.hi) = [] := by rw [hnx]; exact gone _ _
            have hk2 : ∀ W, Two W0 ba bb 1048576 n t kb n t kvs (fun k => k = wr.heap.size) W → Calls Try.prog 17 #[.pointer (some ⟨ba, 0, none⟩), .agg #[.int .u32 s.lo, .int .u32 s.hi]] W fun e w' => e = .returned (.int .i64 0) ∧ Two W0 ba bb 1048576 n t kb n t kvs (fun k => k = wr.heap.size) w' ∧ Only (fun k => ¬ k = wr.heap.size) W w' := fun W h => by
              have := two_kill h (by omega) s.lo s.hi
              rwa [hag, hgo] at this
            have hf2 : ∀ W, Two W0 ba bb 1048576 n t kb n t kvs (fun k => k = wr.heap.size) W → Calls Try.prog 18 #[.pointer (some ⟨ba, 0, none⟩), .agg #[.int .u32 s.lo, .int .u32 s.hi]] W fun e w' => e = .returned (.agg #[.int .i64 0, .int .i64 0, .int .i64 0, .int .i64 0]) ∧ Keep W w' := fun W h => by
              have := two_fold h (by omega) s.lo s.hi
              rw [hgo] at this
              exact this
            have HK1 := Lib.hid hk1
            have HK2 := Lib.hid hk2
            have HF2 := Lib.hid hf2
            have HB := Lib.hid (SpB.new wr s.lo s.hi)
            have HKB := Lib.hid hkb
            have hjI : (j : Int) < (ln : Int) := by omega
            have hsum : IntKind.i64.wrap ((L : Int) - (ka.length : Int) + ((ka.filter (inS s.lo s.hi)).length : Int)) = (L : Int) - (kb.length : Int) := by rw [IntKind.wrap_i64]; omega
            have run1 := run_count ⟨0, 0, 0, 0⟩
            dsimp only at run1
            have HSUM := Lib.hid hsum
            clear hs hKw hb1 hnx hpl hT1 hk1 hk2 hf2 hag hgo hka hkb hsum HX
            go_wp2_with fail
            obtain ⟨x0, x1⟩ := HB.out.cells
            generalize wr.alloc (.cells #[.int .u32 s.lo, .int .u32 s.hi] 36) = V at *
            go_wp2_with fail
            refine HK1.out.mono ?_
            rintro e V1 ⟨rfl, hT1, ho1⟩
            have HB1 := Lib.hid (HB.out.only ho1 (fun h => h rfl))
            have HT1 := Lib.hid hT1
            have hsum := HSUM.out
            clear x0 x1 HB HK1 hT1 ho1 c0 c1
            generalize ((ka.filter (inS s.lo s.hi)).length : Int) = cc at *
            obtain ⟨x0, x1⟩ := HB1.out.cells
            go_wp2_with fail
            refine (HK2.out V1 HT1.out).mono ?_
            rintro e V2 ⟨rfl, hT2, ho2⟩
            have HB2 := Lib.hid (HB1.out.only ho2 (fun h => h rfl))
            have HT2 := Lib.hid hT2
            clear x0 x1 HB1 HT1 hT2 ho2 hsum
            obtain ⟨x0, x1⟩ := HB2.out.cells
            go_wp2_with fail
            refine (HF2.out V2 HT2.out).mono ?_
            rintro e V3 ⟨rfl, hk3⟩
            have HT3 := Lib.hid ((HT2.out.kept hk3).mono (X' := fun _ => False) (fun _ h => h.elim))
            clear x0 x1 HB2 HT2 hk3 HK2 HF2
            go_wp2
            go_roundw
            case rel => exact ⟨j + 1, by go_num, by omega, by rw [HKB.out], Lib.hid (by rw [← HKB.out]; exact HT3.out)⟩
            case measure => simp [intOf]; omega
          · have hje : j = ln := by omega
            subst hje
            have htk : ss.take j = ss := List.take_of_length_le (by rw [HS.out.2.1.len]; exact Nat.le_refl _)
            rw [htk] at HX ⊢
            have hjI : ¬ (j : Int) < (j : Int) := by omega
            obtain ⟨ka, hka⟩ : ∃ ka, ka = kil ss kvs := ⟨_, rfl⟩
            rw [← hka] at HX ⊢
            have hkaL : ka.length ≤ L := by rw [hka, HLL.out]; exact kil_le _ _
            have hsp := HS.out.2.1.up (HK0.out.trans HX.out.keepW)
            have HMK := Lib.hid (Iv.make_own B j cp ss wr hsp HS.out.2.2.1 (by omega) HS.out.2.2.2)
            have HKA := Lib.hid hka
            clear hsp htk hka hjl hj
            go_wp2_with fail
            refine HMK.out.mono ?_
            rintro e W5 ⟨hk5, A5, c5, r, rfl, hown5, hrl, hset⟩
            have hT5 := (HX.out.keep hk5).mono (X' := fun k => wr.heap.size ≤ k ∧ k < W5.heap.size) (fun k h => .inr h)
            have hks := kil_same hset.mem kvs
            have HKS := Lib.hid hks
            have HOWN := Lib.hid hown5
            have HT5 := Lib.hid hT5
            have HSZ := Lib.hid hk5.size
            obtain ⟨m, hm⟩ : ∃ m, m = r.length := ⟨_, rfl⟩
            rw [← hm]
            have HM := Lib.hid hm
            have hm10 : m ≤ 10 := by omega
            clear hk5 hT5 hks hown5 hset HX HMK hm hrl
            generalize wr.heap.size = z5 at *
            go_wp2_with fail
            go_loopw [13, 82] (fun nv i X => ∃ j : Nat, i = .int .i64 j ∧ j ≤ m ∧ nv = .int .i64 ((L : Int) - ((kil (r.take j) kvs).length : Int)) ∧ Hid (Two W0 ba bb 1048576 n t ka n t (kil (r.take j) kvs) (fun k => z5 ≤ k ∧ k < W5.heap.size) X ∧ Only (fun k => ¬ (z5 ≤ k ∧ k < W5.heap.size)) W5 X)) (fun _ i _ => m - (intOf i).toNat)
            case atStart => exact ⟨0, rfl, by omega, by rw [List.take_zero, kil_nil, ← HLL.out]; simp, by rw [List.take_zero, kil_nil]; exact Lib.hid ⟨HT5.out, Only.refl _ _⟩⟩
            case round =>
              obtain ⟨j, rfl, hj, rfl, HX⟩ := hrel
              clear HT5
              by_cases hjm : j < m
              · obtain ⟨s, hs⟩ : ∃ s, r[j]? = some s := ⟨_, List.getElem?_eq_getElem (by rw [← HM.out]; exact hjm)⟩
                obtain ⟨_, _, e1, hP⟩ := Iv.Prs.of_row (ownsRow_only HOWN.out HX.out.2 (fun g e hn => hn (HOWN.out.lt g e)))
                cases e1
                obtain ⟨b1, off1, rfl, hb1, c0, c1⟩ := Iv.SpS.cells hP j s hs
                have hnx := kil_next hs kvs
                obtain ⟨kb, hkb⟩ : ∃ kb, kb = kil (r.take j) kvs := ⟨_, rfl⟩
                obtain ⟨kc, hkc⟩ : ∃ kc, kc = kil (r.take (j + 1)) kvs := ⟨_, rfl⟩
                rw [← hkb] at HX hnx ⊢
                rw [← hkc] at hnx
                have hkaL : kb.length ≤ L := by rw [hkb, HLL.out]; exact kil_le _ _
                have hpl := part_len (inS s.lo s.hi) kb
                rw [← hnx] at hpl
                have hT1 := HX.out.1.swap.kept ((Keep.refl wr).alloc (.cells #[.int .u32 s.lo, .int .u32 s.hi] 36))
                have hk1 := two_kill hT1 (by omega) s.lo s.hi
                rw [← hnx] at hk1
                have HK1 := Lib.hid hk1
                have HOo := Lib.hid (HX.out.2.trans (Only.of_keep (fun k => ¬ (z5 ≤ k ∧ k < W5.heap.size)) ((Keep.refl wr).alloc (.cells #[.int .u32 s.lo, .int .u32 s.hi] 36))) (fun _ _ h => h))
                have HB := Lib.hid (SpB.new wr s.lo s.hi)
                have HKC := Lib.hid hkc
                have hjI : (j : Int) < (m : Int) := by omega
                have hsum : IntKind.i64.wrap ((L : Int) - (kb.length : Int) + ((kb.filter (inS s.lo s.hi)).length : Int)) = (L : Int) - (kc.length : Int) := by rw [IntKind.wrap_i64]; omega
                have HSUM := Lib.hid hsum
                clear hs hb1 hnx hpl hT1 hk1 hkb hkc hsum HX hP
                go_wp2_with fail
                obtain ⟨x0, x1⟩ := HB.out.cells
                generalize wr.alloc (.cells #[.int .u32 s.lo, .int .u32 s.hi] 36) = V at *
                go_wp2_with fail
                refine HK1.out.mono ?_
                rintro e V1 ⟨rfl, hT1, ho1⟩
                have HT1 := Lib.hid hT1.swap
                have HO1 := Lib.hid (HOo.out.trans ho1 (fun _ _ h => h))
                have hsum := HSUM.out
                clear x0 x1 HB HK1 hT1 ho1 c0 c1
                generalize ((kb.filter (inS s.lo s.hi)).length : Int) = cc at *
                go_wp2
                go_roundw
                case rel => exact ⟨j + 1, by go_num, by omega, by rw [HKC.out], Lib.hid ⟨by rw [← HKC.out]; exact HT1.out, HO1.out⟩⟩
                case measure => simp [intOf]; omega
              · have hje : j = m := by omega
                subst hje
                have hall : kil (r.take j) kvs = ka := by rw [List.take_of_length_le (by rw [← HM.out]; exact Nat.le_refl _), HKS.out, HKA.out]
                rw [hall] at HX ⊢
                have hjI : ¬ (j : Int) < (j : Int) := by omega
                have HT := Lib.hid (HX.out.1.mono (X' := fun _ => False) (fun _ h => h.elim))
                obtain ⟨kl, hkl⟩ : ∃ kl, kl = ka.length := ⟨_, rfl⟩
                have HKL := Lib.hid hkl
                rw [← hkl] at hkaL ⊢
                have hw0 : IntKind.i64.wrap (kl : Int) = (kl : Int) := by rw [IntKind.wrap_i64]; omega
                have hw1 : IntKind.i64.wrap ((L : Int) - ((L : Int) - (kl : Int))) = (kl : Int) := by rw [IntKind.wrap_i64]; omega
                clear HX hall hkl
                go_wp2_with fail
                refine (two_pairs HT.out (by have := HKL.out; omega)).mono ?_
                rintro e Y1 ⟨P1, d1, rfl, hp1, hk1⟩
                rw [← HKL.out] at hp1 ⊢
                have HT1 := Lib.hid (HT.out.kept hk1)
                have HP1 := Lib.hid hp1
                clear HT hp1 hk1
                go_wp2_with fail
                refine (two_pairs HT1.out.swap (by have := HKL.out; omega)).mono ?_
                rintro e Y2 ⟨P2, d2, rfl, hp2, hk2⟩
                rw [← HKL.out] at hp2 ⊢
                have HT2 := Lib.hid (HT1.out.kept hk2)
                have HP2 := Lib.hid hp2
                have HP1' := Lib.hid (HP1.out.keep hk2)
                clear HT1 hp2 hk2 HP1
                go_wp2_with fail
                refine (same_yes P1 kl d1 P2 d2 ka Y2 HP1'.out HP2.out (by omega)).mono ?_
                rintro e Y3 ⟨rfl, hk3⟩
                have HT3 := Lib.hid (HT2.out.kept hk3)
                clear HT2 HP1' HP2 hk3
                go_wp2_with fail
                refine (two_pairs HT3.out (by have := HKL.out; omega)).mono ?_
                rintro e Y4 ⟨P4, d4, rfl, -, hk4⟩
                rw [← HKL.out]
                have HT4 := Lib.hid (HT3.out.kept hk4)
                clear HT3 hk4
                go_wp2_with fail
                refine (two_nodes HT4.out).mono ?_
                rintro e Y5 ⟨rfl, rfl⟩
                go_wp2_with fail
                refine (two_nodes HT4.out.swap).mono ?_
                rintro e Y5 ⟨rfl, rfl⟩
                have HKE := Lib.hid (HK0.out.trans HT4.out.keepW)
                clear HT4
                go_wp2
                go_ret
                exact ⟨rfl, HKE.out⟩
  · rcases Nat.lt_or_ge 40 len with h40 | h40
    · have hlI : decide (40 < (len : Int)) = true := decide_eq_true (by omega)
      clear hg h40
      go_enter Try.func6, Try.ntmps6
      go_wp2_with fail
      refine (alive_any w).mono ?_
      rintro e W0 ⟨rfl, hk0⟩
      have HK0 := Lib.hid hk0
      clear hk0
      go_wp2
      go_ret
      exact ⟨rfl, HK0.out⟩
    · have hlI : decide (40 < (len : Int)) = false := decide_eq_false (by omega)
      have hlJ : decide (10 < (ln : Int)) = true := decide_eq_true (by omega)
      clear hg h40
      go_enter Try.func6, Try.ntmps6
      go_wp2_with fail
      refine (alive_any w).mono ?_
      rintro e W0 ⟨rfl, hk0⟩
      have HK0 := Lib.hid hk0
      clear hk0
      go_wp2
      go_ret
      exact ⟨rfl, HK0.out⟩
end Go.Proofs.Ytopengbflnoneaa
