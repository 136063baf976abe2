/- SegtreeKeys: a walk. -/
import Derived.Test.YtopengbflnoneaaSegAlive
import Derived.Test.YtopengbflnoneaaSegArg
import Derived.Test.YtopengbflnoneaaSegKeysM
import Derived.Test.YtopengbflnoneaaArr2
namespace Go.Proofs.Ytopengbflnoneaa
open Go.RowKit

/-- The tree and the map, between two puts. -/
def TM (W0 : World) (mb k n : Nat) (t : Sh) (kvs : List (Int × Int)) (D : DataW Unit) (X : World) : Prop :=
  Tre W0 (W0.heap.size + 1) 1048576 n t kvs (fun j => j = mb) X ∧ X.ownsMap Try.prog 32 (plainElem Try.prog 2) mb k D ∧ MD D kvs ∧ n ≤ 33 * k ∧ kvs.length ≤ k
set_option maxRecDepth 100000 in
set_option maxHeartbeats 8000000 in
theorem SegtreeKeys_std (A : Option Addr) (len cap : Nat) (zs : List Int) (A1 : Option Addr) (len1 cap1 : Nat) (ys : List Int) (w : World) (row : Arr .u32 w A len zs) (row1 : Arr .i64 w A1 len1 ys) :
    Calls Try.prog 5 #[.slice A len cap, .slice A1 len1 cap1] w fun e w' => e = .returned (.bool true) ∧ Below w.heap.size w w' := by
  have HR := Lib.hid row
  have HR1 := Lib.hid row1
  clear row row1
  have hmm := @run_makeMap Try.prog
  by_cases hg : len ≤ 40 ∧ len ≤ len1
  · obtain ⟨hlen, hle⟩ := hg
    have hlI : decide (40 < (len : Int)) = false := decide_eq_false (by omega)
    have hlJ : decide ((len1 : Int) < (len : Int)) = false := decide_eq_false (by omega)
    go_enter Try.func5, Try.ntmps5
    go_wp2_with fail
    refine (alive_any w).mono ?_
    rintro e W0 ⟨rfl, hk0⟩
    have HK0 := Lib.hid hk0
    clear hk0
    go_wp2_with fail
    refine (tre_new 1048576 W0 (by decide) (by decide)).mono ?_
    rintro e W1 ⟨rfl, hT⟩
    have hmade := World.ownsMap_made W1 Try.prog 32 (plainElem (H := Unit) Try.prog 2)
    have hTm := (hT.keep ((Keep.refl W1).alloc (.map #[] 0))).mono (Pr' := fun j => j = W1.heap.size) (fun k e => .inr (by subst e; simp))
    have HM := Lib.hid hmade
    have HT := Lib.hid hTm
    have HSZ := Lib.hid (show W0.heap.size ≤ W1.heap.size from hT.keepW.size)
    clear hT hTm hmade hlJ
    go_wp2_with fail
    generalize W1.alloc (.map #[] 0) = V1 at *
    generalize W1.heap.size = mb at *
    go_loopw [8, 39] (fun nd i wr => ∃ k n : Nat, i = .int .i64 k ∧ nd = .int .i64 n ∧ k ≤ len ∧ n ≤ 33 * k ∧ Hid (∃ t kvs D, TM W0 mb k n t kvs D wr)) (fun _ i _ => len - (intOf i).toNat)
    case atStart => exact ⟨0, 0, rfl, rfl, by omega, by omega, Lib.hid ⟨.nil, [], _, HT.out, HM.out, MD.nil, by omega, by simp⟩⟩
    case round =>
      obtain ⟨k, n, rfl, rfl, hk, hn, HX⟩ := hrel
      clear HT HM
      by_cases hlt : k < len
      · obtain ⟨t, kvs, D, hT, hown, hmd, -, hkl⟩ := HX.out
        have hKw : Keep w wr := HK0.out.trans hT.keepW
        obtain ⟨b, off, e, hb, hc⟩ := HR.out.2.1.2 (by omega)
        subst e
        obtain ⟨b1, off1, e, hb1, hc1⟩ := HR1.out.2.1.2 (by omega)
        subst e
        have hzl : zs.length = len := by have := HR.out.2.1.1; rwa [vals_length] at this
        have hyl : ys.length = len1 := by have := HR1.out.2.1.1; rwa [vals_length] at this
        obtain ⟨v, hv⟩ : ∃ v, zs[k]? = some v := ⟨_, List.getElem?_eq_getElem (by omega)⟩
        obtain ⟨x, hx⟩ : ∃ x, ys[k]? = some x := ⟨_, List.getElem?_eq_getElem (by omega)⟩
        have hvr := bounds_u32' (HR.out.2.2 v (List.mem_of_getElem? hv))
        have hxr : (Lit.int .i64 x).wf = true := HR1.out.2.2 x (List.mem_of_getElem? hx)
        have hxi : inI x := by
          have e1 : IntKind.i64.min = -9223372036854775808 := by decide
          have e2 : IntKind.i64.max = 9223372036854775807 := by decide
          have := hxr
          simp [Lit.wf, e1, e2] at this
          exact this
        have c0 : wr.cell? ⟨b, off + k, none⟩ = some (.int .u32 v) := by
          rw [hKw.cell (p := ⟨b, off + k, none⟩) hb, hc k hlt, vals_getD _ _ _ (by omega)]
          rw [List.getD_eq_getElem?_getD, hv]
          rfl
        have hcy : ∀ W, Keep w W → W.cell? ⟨b1, off1 + k, none⟩ = some (.int .i64 x) := fun W hW => by
          rw [hW.cell (p := ⟨b1, off1 + k, none⟩) hb1, hc1 k (by omega), vals_getD _ _ _ (by omega)]
          rw [List.getD_eq_getElem?_getD, hx]
          rfl
        have c1 := hcy wr hKw
        have hkI : (k : Int) < (len : Int) := by omega
        have hkJ : (k : Int) < (len1 : Int) := by omega
        have hlk := lack_le 32 0 v t
        have hput := tre_put_yes hT (key := v) (v := x) (by omega) hvr.1 hvr.2 hxi (by omega)
        have HPUT := Lib.hid hput
        have HCY := Lib.hid hcy
        have HMD := Lib.hid (hmd.put hT.rises v x)
        have HOW := Lib.hid hown
        have HMO := Lib.hid (show mb < wr.heap.size ∧ W0.heap.size ≤ mb from ⟨hown.lt, HSZ.out⟩)
        have HKL := Lib.hid (insK_len (key := v) (v := x) hkl)
        have HVW := Lib.hid (plainElem_int (H := Unit) Try.underlying2 hxr)
        have hwfv := wf_u32' hvr.1 hvr.2
        obtain ⟨n2, hn2⟩ : ∃ n2, n2 = n + lack 32 0 v t := ⟨_, rfl⟩
        rw [← hn2] at hput
        have hd1 : n ≤ n2 := by omega
        have hd2 : ¬ (n : Int) + 33 < (n2 : Int) := by omega
        have hn3 : n2 ≤ 33 * (k + 1) := by omega
        have hml : k < maxLen := by unfold maxLen; omega
        have HPUT := Lib.hid hput
        clear hT hown hmd hkl hKw hc hc1 hv hx hvr hzl hyl hput hlk HX hxr hxi hcy hn2
        go_wp2_with fail
        refine HPUT.out.mono ?_
        rintro e W2 ⟨rfl, hT2, ho2⟩
        have hown2 := ownsMap_only HOW.out ho2 (fun h => h rfl)
        generalize insK v x kvs = kvs2 at *
        generalize grow 32 0 v n t = t2 at *
        have HT2 := Lib.hid hT2
        have HO2 := Lib.hid hown2
        clear hT2 HPUT c0 c1 HOW ho2 hown2
        go_wp2_with fail
        refine (tre_nodes HT2.out).mono ?_
        rintro e W2' ⟨rfl, rfl⟩
        go_wp2_with fail
        refine (tre_nodes HT2.out).mono ?_
        rintro e W2' ⟨rfl, rfl⟩
        go_wp2_with fail
        refine (tre_nodes HT2.out).mono ?_
        rintro e W2' ⟨rfl, rfl⟩
        have c1 := HCY.out _ (HK0.out.trans HT2.out.keepW)
        go_wp2_with (at_mapUpdate; refine wpList_mapUpdate_own _ rfl _ _ _ 58 rfl 32 2 u32Keyed Try.underlying58 _ mb k _ rfl HO2.out hml _ _ _ rfl rfl (Maps.keyOf_int_mk Try.underlying32 hwfv) _ _ HVW.out ?_; intro w3 hown3 hgrow3)
        have hT3 := HT2.out.only (S := fun j => j = mb) ((Only.refl _ W2).grown hgrow3 (fun k _ e => (Option.some.inj e).symm)) (fun j hj => ⟨hj, by rw [hj]; exact HMO.out.2⟩)
        have HT3 := Lib.hid hT3
        have HO3 := Lib.hid hown3
        clear hT3 hown3 hgrow3 HT2 HO2 c1
        go_wp2
        go_roundw
        case rel => exact ⟨k + 1, n2, by go_num, by go_num, by omega, by omega, Lib.hid ⟨t2, kvs2, _, HT3.out, HO3.out, HMD.out, by omega, HKL.out⟩⟩
        case measure => simp [intOf]; omega
      · have hke : k = len := by omega
        subst hke
        obtain ⟨t, kvs, D, hT, hown, hmd, -, hkl⟩ := HX.out
        have hkI : ¬ (k : Int) < (k : Int) := by omega
        have HMD := Lib.hid hmd
        have HKL := Lib.hid hkl
        have HT := Lib.hid hT
        have HO := Lib.hid hown
        have HMO := Lib.hid (show mb < wr.heap.size ∧ W0.heap.size ≤ mb from ⟨hown.lt, HSZ.out⟩)
        clear hT hown hmd hkl HX hlt hk
        go_wp2_with (at_range; refine wpList_range_own _ rfl _ 58 rfl 32 2 u32Keyed Try.underlying58 _ mb _ D rfl HO.out ?_; intro w0 hrg0 hg0 hs0)

        have hT0 := (HT.out.keep (Only.keep (Keep.refl wr) ((Only.refl (fun _ => False) wr).grown hg0 (fun k _ e => by cases e)) (fun k h => h.elim))).mono (Pr' := fun j => j = mb ∨ j = wr.heap.size) (fun j h => by rcases h with h | h; exact .inl h; exact .inr ⟨by omega, by omega⟩)
        have HT0 := Lib.hid hT0
        have HRG0 := Lib.hid hrg0
        have HWR := Lib.hid (show W0.heap.size ≤ wr.heap.size from HT.out.keepW.size)
        clear hT0 hrg0 hg0 hs0 HT HO
        generalize wr.heap.size = r at *
        go_loopw [11] (fun _ X => ∃ left cnt, Hid (X.ranges Try.prog 32 (plainElem Try.prog 2) mb r k D left cnt ∧ Tre W0 (W0.heap.size + 1) 1048576 n t kvs (fun j => j = mb ∨ j = r) X)) (fun _ X => X.rangeLeft mb r)
        case atStart => exact ⟨_, _, Lib.hid ⟨HRG0.out, HT0.out⟩⟩
        case round =>
          obtain ⟨left, cnt, HX⟩ := hrel
          clear HT0 HRG0
          go_wp2_with (at_next; refine wpList_next_ranges_ii _ rfl _ rfl 32 2 .u32 .i64 u32Keyed Try.underlying32 Try.underlying2 mb r k _ _ _ rfl HX.out.1 ?_ ?_)
          · intro hc0 hl0
            clear hc0 hl0
            have HT := Lib.hid (HX.out.2.mono (Pr' := fun j => j = mb) (fun j h => .inl h))
            have HO := Lib.hid HX.out.1.owns
            clear HX
            go_wp2_with fail
            refine (pairs_some HT.out (by have := HKL.out; omega) 1000 (by decide) (by decide)).mono ?_
            rintro e X1 ⟨A2, c2, rfl, hrow1, hk1⟩
            have htk : kvs.take 1000 = kvs := List.take_of_length_le (by have := HKL.out; omega)
            rw [htk] at hrow1 ⊢
            obtain ⟨L, hL⟩ : ∃ L, L = kvs.length := ⟨_, rfl⟩
            rw [← hL] at hrow1 ⊢
            have HLL := Lib.hid hL
            have HROW := Lib.hid hrow1
            have HT1 := Lib.hid (HT.out.kept hk1)
            have HO1 := Lib.hid (ownsMap_keep HO.out hk1)
            clear htk hL hrow1 hk1 HT HO
            generalize wr.heap.size = bs at *
            go_wp2_with fail
            go_loopw [111] (fun i X => ∃ j : Nat, i = .int .i64 j ∧ j ≤ L ∧ Hid (Keep X1 X)) (fun i _ => L - (intOf i).toNat)
            case atStart => exact ⟨0, rfl, by omega, Lib.hid (Keep.refl X1)⟩
            case round =>
              obtain ⟨j, rfl, hj, HK⟩ := hrel
              have hL40 : L ≤ 40 := Nat.le_trans (by rw [HLL.out]; exact HKL.out) hlen
              by_cases hjl : j < L
              · obtain ⟨p, hp⟩ : ∃ p, kvs[j]? = some p := ⟨_, List.getElem?_eq_getElem (by rw [← HLL.out]; exact hjl)⟩
                have hrow := ownsRow_only HROW.out (Only.of_keep (fun _ => False) HK.out) (fun _ _ h => h)
                obtain ⟨gp, capp, hA⟩ : ∃ gp cap, Value.slice A2 L c2 = .slice (some ⟨gp, 0, none⟩) L cap := by
                  rcases hrow.2 with ⟨e, h0⟩ | ⟨g, cap, cur, e, _⟩
                  · exfalso; simp at e; omega
                  · exact ⟨g, cap, e⟩
                cases hA
                obtain ⟨e0, e1⟩ := prs_get kvs j p hp
                have hpl : (prs kvs).length = L * 2 := by rw [prs_length, HLL.out]
                have c0 := (hrow.cellAt (j * 2) (by omega)).trans e0
                have c1 := (hrow.cellAt (j * 2 + 1) (by omega)).trans e1
                have hjI : (j : Int) < (L : Int) := by omega
                have hpr := HT1.out.range p (List.mem_of_getElem? hp)
                have hpm : (p.1, p.2) ∈ kvs := List.mem_of_getElem? hp
                have hkV := (Keep.refl wr).alloc (.cells #[.int .u32 p.1, .int .i64 p.2] 61)
                have hlook : ∀ W, Keep (wr.alloc (.cells #[.int .u32 p.1, .int .i64 p.2] 61)) W → (Instr.lookup 58 (.map (some mb)) (.int .u32 p.1) false).run Try.prog W = .ok (.int .i64 p.2) W := fun W hW => by
                  obtain ⟨cc, h1, h2, _⟩ := (ownsMap_keep HO1.out ((HK.out.trans hkV).trans hW)).lookup_int u32Keyed Try.underlying58 Try.underlying2 (zeroI64 _) (Maps.keyOf_int_mk Try.underlying32 (wf_u32' hpr.1 (by omega)))
                  rw [HMD.out.at' p.1 p.2 hpm] at h2
                  obtain rfl : p.2 = cc := by simpa using h2
                  exact h1
                have hpc := pair_news wr p
                have hp0 := hpc 0 _ rfl
                have hp1 := hpc 1 _ rfl
                simp only [Addr.add, Nat.zero_add] at hp0 hp1
                have hlt0 : wr.heap.size < (wr.alloc (.cells #[.int .u32 p.1, .int .i64 p.2] 61)).heap.size := by simp
                have HPB := Lib.hid (show ∀ W, Keep (wr.alloc (.cells #[.int .u32 p.1, .int .i64 p.2] 61)) W → W.cell? ⟨wr.heap.size, 0, none⟩ = some (.int .u32 p.1) ∧ W.cell? ⟨wr.heap.size, 1, none⟩ = some (.int .i64 p.2) from fun W hW => ⟨(hW.cell (p := ⟨wr.heap.size, 0, none⟩) hlt0).trans hp0, (hW.cell (p := ⟨wr.heap.size, 1, none⟩) hlt0).trans hp1⟩)
                have HLK := Lib.hid hlook
                have HKV := Lib.hid (HK.out.trans hkV)
                have hgp : gp < wr.heap.size := (hrow.lt gp rfl).2
                have HRW := Lib.hid hrow
                clear hpc hp0 hp1 hlook hpl hrow hpr e0 e1 hkV hpm hlt0
                by_cases hj0 : j = 0
                · subst hj0
                  have HBOX := Lib.hid (show ∀ W, Keep (wr.alloc (.cells #[.int .u32 p.1, .int .i64 p.2] 61)) W → ((Instr.lookup 58 (.map (some mb)) (.int .u32 p.1) false).run Try.prog W = .ok (.int .i64 p.2) W) ∧ W.cell? ⟨wr.heap.size, 0, none⟩ = some (.int .u32 p.1) ∧ W.cell? ⟨wr.heap.size, 1, none⟩ = some (.int .i64 p.2) from fun W hW => ⟨HLK.out W hW, HPB.out W hW⟩)
                  clear hp
                  go_wp2_with fail
                  generalize wr.alloc (.cells #[.int .u32 p.1, .int .i64 p.2] 61) = V at *
                  have hKc := (Keep.refl V).drew
                  refine seq_region (S := fun w' => Keep V w') [⟨0, 128, 83076749736557242056487941267521536⟩, ⟨0, 524288, 166153499473114484112975882535043072⟩, ⟨2, 166153499473114484112975882535043072, 332306998946228968225951765070086144⟩, ⟨5, 415383748682786210282439706337607680, 664613997892457936451903530140172288⟩, ⟨0, 524288, 1329227995784915872903807060280344576⟩, ⟨16, 1329227995784915872903807060280344576, 2658455991569831745807614120560689152⟩, ⟨40, 3323069989462289682259517650700861440, 5316911983139663491615228241121378304⟩, ⟨64, 5316911983139663491615228241121378304, 10633823966279326983230456482242756608⟩, ⟨128, 10633823966279326983230456482243018752, 21267647932558653966460912964485513216⟩, ⟨384, 31901471898837980949691369446728269824, 42535295865117307932921825928971026432⟩, ⟨640, 53169119831396634916152282411213783040, 85070591730234615865843651857942052864⟩, ⟨1024, 85070591730234615865843651857942183936, 170141183460469231731687303715884105728⟩, ⟨1024, 85070591730234615865843651857942315008, 340282366920938463463374607431768211456⟩, ⟨5120, 425352958651173079329218259289710264320, 680564733841876926926749214863536422912⟩, ⟨11264, 935776509032580774524280170437362581504, 1361129467683753853853498429727072845824⟩, ⟨17408, 1446200059413988469719342081585014898688, 2722258935367507707706996859454145691648⟩, ⟨33792, 2807329527097742323572840511312087744512, 5444517870735015415413993718908291383296⟩, ⟨1024, 85070591730234615865843651857942577152, 10889035741470030830827987437816582766592⟩, ⟨132096, 10974106333200265446693831089674524819456, 21778071482940061661655974875633165533184⟩, ⟨328704, 27307659945405311692935812246399398969344, 43556142965880123323311949751266331066368⟩, ⟨525440, 43651847381576637266161023859606515875840, 87112285931760246646623899502532662132736⟩, ⟨1048704, 87122919755726525973607129959014904889344, 174224571863520493293247799005065324265472⟩] [(0, false), (1, false), (2, false), (3, false), (4, false), (5, false), (6, false), (7, false), (8, false), (9, false), (10, false), (11, false), (12, false), (13, false), (14, false), (15, false), (16, false), (17, false), (18, false), (19, false), (20, false), (21, false)] rfl (by kernel_rfl) (by kernel_rfl) (fun _ _ d _ _ h => by cases d <;> exact h) hKc ?_
                  simp only [rowsOf, rowAt, gslot, List.map_cons, List.map_nil, List.getElem?_toArray, List.getElem?_cons_zero, List.getElem?_cons_succ]
                  repeat (first
                    | (refine seq_take (v := ?_) (a' := ?_) (by rfl) ?_ ?_ ?_
                       rotate_left 2
                       · (intro w hSw; have hcs := HBOX.out w hSw; clear hSw; go_split_ands; go_simp; with_reducible rfl)
                       · (simp only [Act.put, List.setIfInBounds_toArray, List.set_cons_zero, List.set_cons_succ]; with_reducible rfl))
                    | (refine seq_skip (a' := ?_) hKc (by rfl) ?_ ?_
                       rotate_left
                       · (simp only [Act.put, List.setIfInBounds_toArray, List.set_cons_zero, List.set_cons_succ]; with_reducible rfl)))
                  refine seq_nil ?_
                  clear c0 c1
                  have HKE := Lib.hid (HKV.out.trans hKc)
                  clear hKc HBOX
                  go_wp2
                  go_roundw
                  case rel => exact ⟨1, by go_num, by omega, HKE⟩
                  case measure => simp [intOf]; omega
                · obtain ⟨i, rfl⟩ : ∃ i, j = i + 1 := ⟨j - 1, by omega⟩
                  obtain ⟨q, hq⟩ : ∃ q, kvs[i]? = some q := ⟨_, List.getElem?_eq_getElem (by rw [← HLL.out]; omega)⟩
                  obtain ⟨e0, e1⟩ := prs_get kvs i q hq
                  have hpl : (prs kvs).length = L * 2 := by rw [prs_length, HLL.out]
                  have d0 := (HRW.out.cellAt (i * 2) (by omega)).trans e0
                  have hqp : q.1 < p.1 := by
                    have := (List.pairwise_iff_getElem.1 HT1.out.rises) i (i + 1) (by rw [← HLL.out]; omega) (by rw [← HLL.out]; omega) (by omega)
                    rw [List.getElem?_eq_getElem (by rw [← HLL.out]; omega)] at hq hp
                    rw [Option.some.inj hq, Option.some.inj hp] at this
                    exact this
                  have hw1 : IntKind.i64.wrap (i : Int) = (i : Int) := by rw [IntKind.wrap_i64]; omega
                  have hi0 : decide ((0 : Int) < ((i + 1 : Nat) : Int)) = true := decide_eq_true (by omega)
                  have hi1 : decide ((0 : Int) < (i : Int) + 1) = true := decide_eq_true (by omega)
                  have hd : decide (p.1 ≤ q.1) = false := decide_eq_false (by omega)
                  have hiL : (i : Int) < (L : Int) := by omega
                  have hiN : i < L := by omega
                  have HBOX := Lib.hid (show ∀ W, Keep (wr.alloc (.cells #[.int .u32 p.1, .int .i64 p.2] 61)) W → ((Instr.lookup 58 (.map (some mb)) (.int .u32 p.1) false).run Try.prog W = .ok (.int .i64 p.2) W) ∧ (W.cell? ⟨wr.heap.size, 0, none⟩ = some (.int .u32 p.1) ∧ W.cell? ⟨wr.heap.size, 1, none⟩ = some (.int .i64 p.2)) ∧ W.cell? ⟨gp, i * 2, none⟩ = some (.int .u32 q.1) from
                    fun W hW => ⟨HLK.out W hW, HPB.out W hW, ((((Keep.refl wr).alloc _).trans hW).cell (p := ⟨gp, i * 2, none⟩) hgp).trans d0⟩)
                  clear hp hq e0 e1 hpl d0 hqp
                  go_wp2_with fail
                  generalize wr.alloc (.cells #[.int .u32 p.1, .int .i64 p.2] 61) = V at *
                  have hKc := (Keep.refl V).drew
                  refine seq_region (S := fun w' => Keep V w') [⟨0, 128, 83076749736557242056487941267521536⟩, ⟨0, 524288, 166153499473114484112975882535043072⟩, ⟨2, 166153499473114484112975882535043072, 332306998946228968225951765070086144⟩, ⟨5, 415383748682786210282439706337607680, 664613997892457936451903530140172288⟩, ⟨0, 524288, 1329227995784915872903807060280344576⟩, ⟨16, 1329227995784915872903807060280344576, 2658455991569831745807614120560689152⟩, ⟨40, 3323069989462289682259517650700861440, 5316911983139663491615228241121378304⟩, ⟨64, 5316911983139663491615228241121378304, 10633823966279326983230456482242756608⟩, ⟨128, 10633823966279326983230456482243018752, 21267647932558653966460912964485513216⟩, ⟨384, 31901471898837980949691369446728269824, 42535295865117307932921825928971026432⟩, ⟨640, 53169119831396634916152282411213783040, 85070591730234615865843651857942052864⟩, ⟨1024, 85070591730234615865843651857942183936, 170141183460469231731687303715884105728⟩, ⟨1024, 85070591730234615865843651857942315008, 340282366920938463463374607431768211456⟩, ⟨5120, 425352958651173079329218259289710264320, 680564733841876926926749214863536422912⟩, ⟨11264, 935776509032580774524280170437362581504, 1361129467683753853853498429727072845824⟩, ⟨17408, 1446200059413988469719342081585014898688, 2722258935367507707706996859454145691648⟩, ⟨33792, 2807329527097742323572840511312087744512, 5444517870735015415413993718908291383296⟩, ⟨1024, 85070591730234615865843651857942577152, 10889035741470030830827987437816582766592⟩, ⟨132096, 10974106333200265446693831089674524819456, 21778071482940061661655974875633165533184⟩, ⟨328704, 27307659945405311692935812246399398969344, 43556142965880123323311949751266331066368⟩, ⟨525440, 43651847381576637266161023859606515875840, 87112285931760246646623899502532662132736⟩, ⟨1048704, 87122919755726525973607129959014904889344, 174224571863520493293247799005065324265472⟩] [(0, false), (1, false), (2, false), (3, false), (4, false), (5, false), (6, false), (7, false), (8, false), (9, false), (10, false), (11, false), (12, false), (13, false), (14, false), (15, false), (16, false), (17, false), (18, false), (19, false), (20, false), (21, false)] rfl (by kernel_rfl) (by kernel_rfl) (fun _ _ d _ _ h => by cases d <;> exact h) hKc ?_
                  simp only [rowsOf, rowAt, gslot, List.map_cons, List.map_nil, List.getElem?_toArray, List.getElem?_cons_zero, List.getElem?_cons_succ]
                  repeat (first
                    | (refine seq_take (v := ?_) (a' := ?_) (by rfl) ?_ ?_ ?_
                       rotate_left 2
                       · (intro w hSw; have hcs := HBOX.out w hSw; clear hSw; go_split_ands; go_simp; with_reducible rfl)
                       · (simp only [Act.put, List.setIfInBounds_toArray, List.set_cons_zero, List.set_cons_succ]; with_reducible rfl))
                    | (refine seq_skip (a' := ?_) hKc (by rfl) ?_ ?_
                       rotate_left
                       · (simp only [Act.put, List.setIfInBounds_toArray, List.set_cons_zero, List.set_cons_succ]; with_reducible rfl)))
                  refine seq_nil ?_
                  clear c0 c1
                  have HKE := Lib.hid (HKV.out.trans hKc)
                  clear hKc HBOX
                  go_wp2
                  go_roundw
                  case rel => exact ⟨i + 1 + 1, by go_num, by omega, HKE⟩
                  case measure => simp [intOf]; omega
              · have hje : j = L := by omega
                subst hje
                have hjI : ¬ (j : Int) < (j : Int) := by omega
                have HT2 := Lib.hid (HT1.out.kept HK.out)
                have HO2 := Lib.hid (ownsMap_keep HO1.out HK.out)
                have hfo := tre_fold HT2.out (by have := HKL.out; omega) 0 4294967295
                rw [all_in HT2.out.range] at hfo
                have hcn := cnt_of' HT2.out.range (by have := HKL.out; omega)
                obtain ⟨fc, fs, fn, fx, hff⟩ : ∃ c s n x, ofL (vs kvs) = ⟨c, s, n, x⟩ := ⟨_, _, _, _, rfl⟩
                rw [hff] at hfo hcn
                have hms : Maps.size D = j := by rw [HMD.out.size, HLL.out]
                have hfc : fc = (j : Int) := by rw [HLL.out]; exact hcn
                subst hfc
                have HFO := Lib.hid hfo
                have run1 := run_count ⟨j, fs, fn, fx⟩
                dsimp only at run1
                have HMS := Lib.hid hms
                clear hfo hcn hff HT1 HO1 HK hms
                go_wp2_with (at_len; refine wpList_len_own _ rfl _ 58 rfl 32 2 Try.underlying58 _ mb _ D rfl HO2.out ?_; rw [HMS.out])
                refine HFO.out.mono ?_
                rintro e w9 ⟨rfl, hk9⟩
                have HO3 := Lib.hid (ownsMap_keep HO2.out hk9)
                have HKE := Lib.hid ((HK0.out.trans HT2.out.keepW).trans hk9)
                clear HO2 HFO hk9
                dsimp only
                go_wp2_with (at_len; refine wpList_len_want rfl _ 58 rfl Try.underlying58 rfl HO3.out ?_; rw [HMS.out])
                go_ret
                exact ⟨rfl, HKE.out⟩
          · intro x c w1 cnt1 hwx hwc hlx hat hrg1 hlt hg1 hs1 hen
            have hbx := bounds_u32' hwx
            have hhas := HMD.out.has x
            rw [Maps.has_true_of_atKey hat] at hhas
            obtain ⟨v, hv⟩ := hasK_iff.1 hhas.symm
            obtain rfl : c = v := by
              have h1 := HMD.out.at' x v hv (.lit (.int .i64 0))
              rw [hat] at h1
              simpa using h1
            have hT1 := HX.out.2.only (S := fun j => j = r) ((Only.refl _ _).grown hg1 (fun k _ e => (Option.some.inj e).symm)) (fun j hj => ⟨.inr hj, by rw [hj]; exact HWR.out⟩)
            have HG := Lib.hid (tre_get hT1 (by have := HKL.out; omega) x (one1 c) (by rw [one_in hT1.rises hv]; exact ofL_one c) true (decide_eq_true (show (0 : Int) < 1 by decide)))
            have hrs := hT1.rises
            obtain ⟨y, hy, hy0, hy1⟩ := xor_one x hbx.1 (by omega)
            obtain ⟨bb, hbb⟩ : ∃ bb, hasK kvs y = bb := ⟨_, rfl⟩
            have HT1 := Lib.hid hT1
            have HR1 := Lib.hid hrg1
            have HG2 := Lib.hid (fun W (hW : Keep w1 W) => tre_get (hT1.kept hW) (by have := HKL.out; omega) y _ rfl bb (by rw [has_cnt hrs, hbb]))
            have HH := Lib.hid (fun W (hW : Keep w1 W) => by
              have := has_any mb k D y hy0 hy1 W (ownsMap_keep hrg1.owns hW)
              rw [HMD.out.has, hbb] at this
              exact this)
            have HLT := Lib.hid hlt
            have HLE := Lib.hid (HX.out.1.left_eq)
            clear hwx hwc hlx hat hrg1 hg1 hs1 hhas hv hT1 hrs hbb hbx hlt
            go_wp2_with fail
            refine HG.out.mono ?_
            rintro e w2 ⟨rfl, hk2⟩
            have HK2 := Lib.hid hk2
            clear hk2 hen HG
            dsimp only [one1]
            go_wp2_with fail
            refine (HG2.out w2 HK2.out).mono ?_
            rintro e w3 ⟨rfl, hk3⟩
            have HK3 := Lib.hid (HK2.out.trans hk3)
            clear hk3
            generalize (ofL (vs (List.filter (inS y y) kvs))).s = ss at *
            go_wp2_with fail
            refine (HH.out w3 HK3.out).mono ?_
            rintro e w4 ⟨rfl, hk4⟩
            have HK4 := Lib.hid (HK3.out.trans hk4)
            clear hk4
            go_wp2
            go_roundw
            case rel => exact ⟨_, _, Lib.hid ⟨ranges_keep HR1.out HK4.out, HT1.out.kept HK4.out⟩⟩
            case measure => rw [(ranges_keep HR1.out HK4.out).left_eq, HLE.out]; exact HLT.out
  · rcases Nat.lt_or_ge 40 len with h40 | h40
    · have hlI : decide (40 < (len : Int)) = true := decide_eq_true (by omega)
      clear hg h40
      go_enter Try.func5, Try.ntmps5
      go_wp2_with fail
      refine (alive_any w).mono ?_
      rintro e W0 ⟨rfl, hk0⟩
      have HK0 := Lib.hid hk0
      clear hk0
      go_wp2
      go_ret
      exact ⟨rfl, HK0.out⟩
    · have hlI : decide (40 < (len : Int)) = false := decide_eq_false (by omega)
      have hlJ : len1 < len := by omega
      clear hg h40
      go_enter Try.func5, Try.ntmps5
      go_wp2_with fail
      refine (alive_any w).mono ?_
      rintro e W0 ⟨rfl, hk0⟩
      have HK0 := Lib.hid hk0
      clear hk0
      go_wp2
      go_ret
      exact ⟨rfl, HK0.out⟩
end Go.Proofs.Ytopengbflnoneaa
