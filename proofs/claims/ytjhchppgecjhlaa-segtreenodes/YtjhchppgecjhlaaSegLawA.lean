/- SegtreeNodes: a walk. -/
import Derived.Test.YtjhchppgecjhlaaSegAlive
import Derived.Test.YtjhchppgecjhlaaSegNodesK
import Derived.Test.YtjhchppgecjhlaaSegBits
namespace Go.Proofs.Ytjhchppgecjhlaa
open Go.RowKit

theorem agF1 : ∃ f0 f1 f2 f3 : Field, Try.prog.underlying 38 = some (.struct #[f0, f1, f2, f3]) ∧ f1.offset = 1 ∧ f1.type = 2 := ⟨_, _, _, _, Try.underlying38, by kernel_rfl, by kernel_rfl⟩
/-- The sum, of what is told. -/
theorem run_sum (a : Ag) (w : World) : (Instr.field 38 (.agg #[.int .i64 a.c, .int .i64 a.s, .int .i64 a.mn, .int .i64 a.mx]) 1).run Try.prog w = .ok (.int .i64 a.s) w := by
  obtain ⟨f0, f1, f2, f3, e, o2, t2⟩ := agF1
  simp [Instr.field, asAgg, run_underlying e, o2, t2, part, go_sem]
set_option maxRecDepth 100000 in
set_option maxHeartbeats 8000000 in
theorem SegtreeNodes_std (a0 : Int) (w0 : (Lit.int .u32 a0).wf = true) (a1 : Int) (_w1 : (Lit.int .i64 a1).wf = true) (w : World) :
    Calls Try.prog 8 #[.int .u32 a0, .int .i64 a1] w fun e w' => e = .returned (.bool true) ∧ Below w.heap.size w w' := by
  have hi0 : 0 ≤ a0 ∧ a0 < 4294967296 := by
    have e1 : IntKind.u32.min = 0 := by decide
    have e2 : IntKind.u32.max = 4294967295 := by decide
    simp [Lit.wf, e1, e2] at w0
    omega
  obtain ⟨h0, h1⟩ := hi0
  have hb := and_5 a1
  clear w0 _w1
  go_enter Try.func8, Try.ntmps8
  go_wp2_with fail
  refine (alive_any w).mono ?_
  rintro e W0 ⟨rfl, hk0⟩
  have HK0 := Lib.hid hk0
  clear hk0
  rcases hb with hb | hb | hb | hb
  · have hfr : bits BinOp.andNot IntKind.u32 a0 0 = a0 / 2 ^ 0 * 2 ^ 0 := andNot_low a0 0 h0 h1 (by decide)
    obtain ⟨q, hq⟩ : ∃ q, q = a0 / 2 ^ 0 := ⟨_, rfl⟩
    obtain ⟨fr, hfe⟩ : ∃ fr, fr = 2 ^ 0 * q := ⟨_, rfl⟩
    have hfr2 : bits BinOp.andNot IntKind.u32 a0 0 = fr := by rw [hfr, hfe, ← hq, Int.mul_comm]
    have hf0 : 0 ≤ fr := by rw [hfe, hq]; omega
    have hf1 : fr + 1 ≤ 4294967296 := by rw [hfe, hq]; omega
    have hf31 : ∀ k : Int, 0 ≤ k → k < 1 → (fr + k) / 2 ^ 31 = fr / 2 ^ 31 := fun k k0 k1 => by rw [hfe, hq]; omega
    obtain ⟨far, hfar, hg0, hg1, hg2⟩ := xor_far fr hf0 (by omega)
    have HQE := Lib.hid hfe
    have HF31 := Lib.hid hf31
    have HG2 := Lib.hid hg2
    clear hfr hq hfe hf31 hg2 h0 h1
    go_wp2_with fail
    refine (tre_new 33 W0 (by decide) (by decide)).mono ?_
    rintro e W1 ⟨rfl, hT⟩
    have HT := Lib.hid hT
    clear hT
    go_wp2_with fail
    go_loopw [33] (fun i wr => ∃ m : Nat, i = .int .u32 m ∧ m ≤ 1 ∧ Hid (∃ t, Tre W0 (W0.heap.size + 1) 33 (total 0 m) t (kvn fr m) (fun _ => False) wr ∧ Ways t ((downs m).map (fun k => fr + k)))) (fun i _ => 1 - (intOf i).toNat)
    case atStart => exact ⟨0, rfl, by omega, Lib.hid ⟨.nil, HT.out, Ways.nil⟩⟩
    case round =>
      obtain ⟨m, rfl, hm, HR⟩ := hrel
      clear HT
      by_cases hlt : m < 1
      · obtain ⟨t, hT, hW⟩ := HR.out
        have hlk : lack 32 0 (fr + m) t = wants 0 m := by
          rw [hW (fr + m) (by omega) (by omega), HQE.out]
          exact lk_wants (n := 0) (q := q) (by decide) (by simpa using hlt)
        have htot : total 0 (m + 1) ≤ 33 := by
          have := total_mono 0 (m + 1) (1 - (m + 1))
          rw [show m + 1 + (1 - (m + 1)) = 1 by omega, total_is.1] at this
          exact this
        have hput := tre_put_yes hT (key := fr + m) (v := 1) (by rw [kvn_length]; omega) (by omega) (by omega) ⟨by decide, by decide⟩ (by rw [hlk]; exact htot)
        rw [hlk, kvn_put] at hput
        have HW2 := Lib.hid (hW.put (fr + m) (total 0 m) (by omega) (by omega))
        have HPUT := Lib.hid hput
        have hmi : (m : Int) < 1 := by omega
        have hadd : (fr + (m : Int)) % 4294967296 = fr + (m : Int) := by omega
        have hadd1 : ((m : Int) + 1) % 4294967296 = ((m + 1 : Nat) : Int) := by omega
        clear hT hW hlk htot hput HR
        go_wp2_with fail
        refine HPUT.out.mono ?_
        rintro e W2 ⟨rfl, hT2, -⟩
        have HT2 := Lib.hid hT2
        clear hT2 HPUT
        go_wp2
        go_roundw
        case rel => exact ⟨m + 1, by go_num, by omega, Lib.hid ⟨_, HT2.out, HW2.out⟩⟩
        case measure => simp [intOf]; omega
      · have hmp : m = 1 := by omega
        subst hmp
        obtain ⟨t, hT, hW⟩ := HR.out
        rw [total_is.1] at hT
        have HT := Lib.hid hT
        have HW := Lib.hid hW
        clear hT hW HR hm
        have hrange := HT.out.range
        have hfl : lack 32 0 far t = 32 := by
          rw [HW.out far hg0 hg1]
          refine lk_far (fr := fr) ?_ hg0 hg1 HG2.out ⟨hf0, by omega⟩ ?_
          · intro k hk
            obtain ⟨j, hj, rfl⟩ := List.mem_map.1 hk
            obtain ⟨j0, j1⟩ := (downs_mem 1 j).1 hj
            exact HF31.out j j0 (by omega)
          · exact List.mem_map.2 ⟨0, (downs_mem 1 0).2 ⟨by omega, by omega⟩, by omega⟩
        have hfl0 : lack 32 0 fr t = 0 := HW.out.mem fr (List.mem_map.2 ⟨0, (downs_mem 1 0).2 ⟨by omega, by omega⟩, by omega⟩) hf0 (by omega)
        have HFL := Lib.hid hfl
        have HFL0 := Lib.hid hfl0
        have HLEN := Lib.hid (kvn_length fr 1)
        obtain ⟨ag, hag, hags⟩ : ∃ ag, ofL (vs ((kvn fr 1).filter (inS 0 4294967295))) = ag ∧ ag.s = 1 := ⟨_, rfl, by rw [filter_whole hrange, vs_kvn]; exact sum_kvn.1⟩
        obtain ⟨gc, gs, gmn, gmx⟩ := ag
        dsimp only at hags
        subst hags
        have HAG := Lib.hid hag
        have HFO := Lib.hid (show ∀ W, Keep wr W → Calls Try.prog 18 #[.pointer (some ⟨W0.heap.size + 1, 0, none⟩), .agg #[.int .u32 0, .int .u32 4294967295]] W fun e w' => e = .returned (.agg #[.int .i64 gc, .int .i64 1, .int .i64 gmn, .int .i64 gmx]) ∧ Keep W w' from fun W hk => by have := tre_fold (HT.out.kept hk) (by rw [HLEN.out]; omega) 0 4294967295; rw [HAG.out] at this; exact this)
        have run1 := run_sum ⟨gc, 1, gmn, gmx⟩
        dsimp only at run1
        clear hrange hfl hfl0 hag
        go_wp2_with fail
        have hKc := (Keep.refl wr).drew
        refine seq_region (S := fun _ => True) [⟨0, 64, 8796093022208⟩, ⟨1, 8796093022208, 17592186044416⟩, ⟨0, 32, 35184372088832⟩, ⟨6, 52776558133248, 70368744177664⟩, ⟨10, 70368744177664, 140737488355328⟩, ⟨16, 140737488355392, 281474976710656⟩, ⟨16, 140737488355329, 562949953421312⟩, ⟨80, 703687441776640, 1125899906842624⟩, ⟨176, 1548112371908608, 2251799813685248⟩, ⟨272, 2392537302040576, 4503599627370496⟩, ⟨528, 4644337115725824, 9007199254740992⟩, ⟨1280, 9007199254740992, 18014398509481984⟩, ⟨2048, 18014398509482048, 36028797018963968⟩, ⟨2048, 18014398509481984, 72057594037927936⟩, ⟨14336, 126100789566373888, 144115188075855872⟩, ⟨18432, 162129586585337856, 288230376151711744⟩, ⟨2048, 18014398509481986, 576460752303423488⟩, ⟨67584, 594475150812905472, 1152921504606846976⟩, ⟨165888, 1459166279268040704, 2305843009213693952⟩, ⟨264192, 2323857407723175936, 4611686018427387904⟩] [(0, false), (2, false), (1, true), (3, false), (4, false), (5, false), (6, false), (7, false), (8, true), (9, false), (10, false), (11, false), (12, false), (13, false), (16, false), (17, false), (14, true), (15, false), (18, false), (19, false)] rfl (by kernel_rfl) (by kernel_rfl) (fun _ _ d _ _ h => by cases d <;> exact h) trivial ?_
        simp only [rowsOf, rowAt, gslot, List.map_cons, List.map_nil, List.getElem?_toArray, List.getElem?_cons_zero, List.getElem?_cons_succ]
        repeat (first
          | (refine seq_take (v := ?_) (a' := ?_) (by rfl) ?_ ?_ ?_
             rotate_left 2
             · (intro w hSw; go_simp; with_reducible rfl)
             · (simp only [Act.put, List.setIfInBounds_toArray, List.set_cons_zero, List.set_cons_succ]; with_reducible rfl))
          | (refine seq_skip (a' := ?_) trivial (by rfl) ?_ ?_
             rotate_left
             · (simp only [Act.put, List.setIfInBounds_toArray, List.set_cons_zero, List.set_cons_succ]; with_reducible rfl)))
        refine seq_callR (R := fun w' => Keep wr w') (f := 20) (args := ?_) (v := ?_) (a' := ?_) (by rfl) (by rfl) (by rfl) Try.call20 ?_ ?_ ?_ ?_
        rotate_left 3
        · (go_simp; with_reducible rfl)
        · ((with_reducible refine (tre_nodes (HT.out.kept hKc)).mono ?_)
           rintro e w' ⟨rfl, rfl⟩
           refine ⟨?_, trivial, hKc⟩
           with_reducible rfl)
        · (simp only [Act.put, List.setIfInBounds_toArray, List.set_cons_zero, List.set_cons_succ]; with_reducible rfl)
        clear hKc
        intro w2 hw2 hKc
        clear hw2
        repeat (first
          | (refine seq_take (v := ?_) (a' := ?_) (by rfl) ?_ ?_ ?_
             rotate_left 2
             · (intro w hSw; go_simp; with_reducible rfl)
             · (simp only [Act.put, List.setIfInBounds_toArray, List.set_cons_zero, List.set_cons_succ]; with_reducible rfl))
          | (refine seq_skip (a' := ?_) trivial (by rfl) ?_ ?_
             rotate_left
             · (simp only [Act.put, List.setIfInBounds_toArray, List.set_cons_zero, List.set_cons_succ]; with_reducible rfl)))
        refine seq_callR (R := fun w' => Keep wr w') (f := 13) (args := ?_) (v := ?_) (a' := ?_) (by rfl) (by rfl) (by rfl) Try.call13 ?_ ?_ ?_ ?_
        rotate_left 3
        · (go_simp; with_reducible rfl)
        · ((with_reducible refine (tre_put_no (HT.out.kept hKc) hg0 (by omega) (by rw [HFL.out]; omega)).mono ?_)
           rintro e w' ⟨rfl, hk⟩
           refine ⟨?_, trivial, hKc.trans hk⟩
           with_reducible rfl)
        · (simp only [Act.put, List.setIfInBounds_toArray, List.set_cons_zero, List.set_cons_succ]; with_reducible rfl)
        clear hKc
        intro w3 hw3 hKc
        clear hw3
        repeat (first
          | (refine seq_take (v := ?_) (a' := ?_) (by rfl) ?_ ?_ ?_
             rotate_left 2
             · (intro w hSw; go_simp; with_reducible rfl)
             · (simp only [Act.put, List.setIfInBounds_toArray, List.set_cons_zero, List.set_cons_succ]; with_reducible rfl))
          | (refine seq_skip (a' := ?_) trivial (by rfl) ?_ ?_
             rotate_left
             · (simp only [Act.put, List.setIfInBounds_toArray, List.set_cons_zero, List.set_cons_succ]; with_reducible rfl)))
        refine seq_callR (R := fun w' => Keep wr w') (f := 18) (args := ?_) (v := ?_) (a' := ?_) (by rfl) (by rfl) (by rfl) Try.call18 ?_ ?_ ?_ ?_
        rotate_left 3
        · (go_simp; with_reducible rfl)
        · ((with_reducible refine (HFO.out _ hKc).mono ?_)
           rintro e w' ⟨rfl, hk⟩
           refine ⟨?_, trivial, hKc.trans hk⟩
           with_reducible rfl)
        · (simp only [Act.put, List.setIfInBounds_toArray, List.set_cons_zero, List.set_cons_succ]; with_reducible rfl)
        clear hKc
        intro w4 hw4 hKc
        clear hw4
        repeat (first
          | (refine seq_take (v := ?_) (a' := ?_) (by rfl) ?_ ?_ ?_
             rotate_left 2
             · (intro w hSw; go_simp; with_reducible rfl)
             · (simp only [Act.put, List.setIfInBounds_toArray, List.set_cons_zero, List.set_cons_succ]; with_reducible rfl))
          | (refine seq_skip (a' := ?_) trivial (by rfl) ?_ ?_
             rotate_left
             · (simp only [Act.put, List.setIfInBounds_toArray, List.set_cons_zero, List.set_cons_succ]; with_reducible rfl)))
        refine seq_nil ?_
        have HKw := Lib.hid hKc
        clear hKc run1
        have hput := fun W (hk : Keep w4 W) => tre_put_yes (key := fr) (v := 5) (HT.out.kept (HKw.out.trans hk)) (by rw [HLEN.out]; omega) hf0 (by omega) ⟨by decide, by decide⟩ (by rw [HFL0.out]; omega)
        rw [HFL0.out, Nat.add_zero] at hput
        obtain ⟨t2, ht2⟩ : ∃ t2, t2 = grow 32 0 fr 33 t := ⟨_, rfl⟩
        rw [← ht2] at hput
        obtain ⟨kv2, hkv2⟩ : ∃ kv2, kv2 = insK fr 5 (kvn fr 1) := ⟨_, rfl⟩
        rw [← hkv2] at hput
        have HPUT := Lib.hid hput
        have HLEN2 := Lib.hid (show kv2.length = 1 from by rw [hkv2]; exact kvn_again fr 0)
        have HCNT := Lib.hid (show ∀ W, Tre W0 (W0.heap.size + 1) 33 33 t2 kv2 (fun _ => False) W → (ofL (vs (kv2.filter (inS 0 4294967295)))).c = 1 from fun W hT => by
          rw [filter_whole hT.range, cnt_of hT.range (by rw [HLEN2.out]; omega), HLEN2.out]
          rfl)
        have HKIL := Lib.hid (show ∀ W, Tre W0 (W0.heap.size + 1) 33 33 t2 kv2 (fun _ => False) W → Calls Try.prog 17 #[.pointer (some ⟨W0.heap.size + 1, 0, none⟩), .agg #[.int .u32 0, .int .u32 4294967295]] W fun e w' => e = .returned (.int .i64 1) ∧ Tre W0 (W0.heap.size + 1) 33 33 t2 (kv2.filter (fun x => !inS 0 4294967295 x)) (fun _ => False) w' from fun W hT => by
          have := tre_kill hT (by rw [HLEN2.out]; omega) 0 4294967295
          rw [HCNT.out W hT] at this
          exact this.mono (fun e w' h => ⟨h.1, h.2.1⟩))
        clear hput ht2 hkv2
        go_wp2_with fail
        refine seq_region (S := fun _ => True) [⟨0, 64, 9223372036854775808⟩, ⟨0, 1, 18446744073709551616⟩, ⟨3, 27670116110564327424, 36893488147419103232⟩, ⟨4, 36893488147419103232, 73786976294838206464⟩, ⟨12, 73786976294838206464, 147573952589676412928⟩, ⟨16, 147573952589676412992, 295147905179352825856⟩, ⟨48, 442721857769029238784, 590295810358705651712⟩, ⟨16, 147573952589676412960, 1180591620717411303424⟩, ⟨208, 1918461383665793368064, 2361183241434822606848⟩, ⟨272, 2508757194024499019776, 4722366482869645213696⟩, ⟨576, 4722366482869645213696, 9444732965739290427392⟩, ⟨1024, 9444732965739290427456, 18889465931478580854784⟩, ⟨1024, 9444732965739290427392, 37778931862957161709568⟩, ⟨7168, 66113130760175032991744, 75557863725914323419136⟩, ⟨1024, 9444732965739290427394, 151115727451828646838272⟩, ⟨17408, 160560460417567937265664, 302231454903657293676544⟩, ⟨41984, 387234051595310907523072, 604462909807314587353088⟩, ⟨66560, 613907642773053877780480, 1208925819614629174706176⟩, ⟨139264, 1208925819614629174706176, 2417851639229258349412352⟩, ⟨262144, 2417851639229258349412416, 4835703278458516698824704⟩, ⟨786432, 7253554917687775048237056, 9671406556917033397649408⟩, ⟨262144, 2417851639229258349412384, 19342813113834066795298816⟩, ⟨3407872, 31432071309980358542360576, 38685626227668133590597632⟩, ⟨4456448, 41103477866897391940009984, 77371252455336267181195264⟩, ⟨16777215, 77371252455336267181195264, 16⟩] [(0, false), (1, false), (2, true), (3, false), (4, false), (5, false), (7, false), (6, true), (8, false), (9, false), (10, false), (11, false), (12, false), (14, false), (15, false), (13, true), (16, false), (17, false), (18, false), (19, false), (21, false), (20, true), (22, false), (23, false), (24, false)] rfl (by kernel_rfl) (by kernel_rfl) (fun _ _ d _ _ h => by cases d <;> exact h) trivial ?_
        simp only [rowsOf, rowAt, gslot, List.map_cons, List.map_nil, List.getElem?_toArray, List.getElem?_cons_zero, List.getElem?_cons_succ]
        repeat (first
          | (refine seq_take (v := ?_) (a' := ?_) (by rfl) ?_ ?_ ?_
             rotate_left 2
             · (intro w hSw; go_simp; with_reducible rfl)
             · (simp only [Act.put, List.setIfInBounds_toArray, List.set_cons_zero, List.set_cons_succ]; with_reducible rfl))
          | (refine seq_skip (a' := ?_) trivial (by rfl) ?_ ?_
             rotate_left
             · (simp only [Act.put, List.setIfInBounds_toArray, List.set_cons_zero, List.set_cons_succ]; with_reducible rfl)))
        refine seq_callR (R := fun w' => Tre W0 (W0.heap.size + 1) 33 33 t2 kv2 (fun _ => False) w') (f := 13) (args := ?_) (v := ?_) (a' := ?_) (by rfl) (by rfl) (by rfl) Try.call13 ?_ ?_ ?_ ?_
        rotate_left 3
        · (go_simp; with_reducible rfl)
        · ((with_reducible refine (HPUT.out _ (Keep.refl w4).drew).mono ?_)
           rintro e w' ⟨rfl, hT2, -⟩
           refine ⟨?_, trivial, hT2⟩
           with_reducible rfl)
        · (simp only [Act.put, List.setIfInBounds_toArray, List.set_cons_zero, List.set_cons_succ]; with_reducible rfl)
        intro w5 hw5 hT5
        clear hw5
        repeat (first
          | (refine seq_take (v := ?_) (a' := ?_) (by rfl) ?_ ?_ ?_
             rotate_left 2
             · (intro w hSw; go_simp; with_reducible rfl)
             · (simp only [Act.put, List.setIfInBounds_toArray, List.set_cons_zero, List.set_cons_succ]; with_reducible rfl))
          | (refine seq_skip (a' := ?_) trivial (by rfl) ?_ ?_
             rotate_left
             · (simp only [Act.put, List.setIfInBounds_toArray, List.set_cons_zero, List.set_cons_succ]; with_reducible rfl)))
        refine seq_callR (R := fun w' => Tre W0 (W0.heap.size + 1) 33 33 t2 kv2 (fun _ => False) w') (f := 20) (args := ?_) (v := ?_) (a' := ?_) (by rfl) (by rfl) (by rfl) Try.call20 ?_ ?_ ?_ ?_
        rotate_left 3
        · (go_simp; with_reducible rfl)
        · ((with_reducible refine (tre_nodes hT5).mono ?_)
           rintro e w' ⟨rfl, rfl⟩
           refine ⟨?_, trivial, hT5⟩
           with_reducible rfl)
        · (simp only [Act.put, List.setIfInBounds_toArray, List.set_cons_zero, List.set_cons_succ]; with_reducible rfl)
        clear hT5
        intro w6 hw6 hT6
        clear hw6
        repeat (first
          | (refine seq_take (v := ?_) (a' := ?_) (by rfl) ?_ ?_ ?_
             rotate_left 2
             · (intro w hSw; go_simp; with_reducible rfl)
             · (simp only [Act.put, List.setIfInBounds_toArray, List.set_cons_zero, List.set_cons_succ]; with_reducible rfl))
          | (refine seq_skip (a' := ?_) trivial (by rfl) ?_ ?_
             rotate_left
             · (simp only [Act.put, List.setIfInBounds_toArray, List.set_cons_zero, List.set_cons_succ]; with_reducible rfl)))
        refine seq_callR (R := fun w' => Tre W0 (W0.heap.size + 1) 33 33 t2 (kv2.filter (fun x => !inS 0 4294967295 x)) (fun _ => False) w') (f := 17) (args := ?_) (v := ?_) (a' := ?_) (by rfl) (by rfl) (by rfl) Try.call17 ?_ ?_ ?_ ?_
        rotate_left 3
        · (go_simp; with_reducible rfl)
        · ((with_reducible refine (HKIL.out _ hT6).mono ?_)
           rintro e w' ⟨rfl, hT7⟩
           refine ⟨?_, trivial, hT7⟩
           with_reducible rfl)
        · (simp only [Act.put, List.setIfInBounds_toArray, List.set_cons_zero, List.set_cons_succ]; with_reducible rfl)
        clear hT6
        intro w7 hw7 hT7
        clear hw7
        repeat (first
          | (refine seq_take (v := ?_) (a' := ?_) (by rfl) ?_ ?_ ?_
             rotate_left 2
             · (intro w hSw; go_simp; with_reducible rfl)
             · (simp only [Act.put, List.setIfInBounds_toArray, List.set_cons_zero, List.set_cons_succ]; with_reducible rfl))
          | (refine seq_skip (a' := ?_) trivial (by rfl) ?_ ?_
             rotate_left
             · (simp only [Act.put, List.setIfInBounds_toArray, List.set_cons_zero, List.set_cons_succ]; with_reducible rfl)))
        refine seq_callR (R := fun w' => Tre W0 (W0.heap.size + 1) 33 33 t2 (kv2.filter (fun x => !inS 0 4294967295 x)) (fun _ => False) w') (f := 20) (args := ?_) (v := ?_) (a' := ?_) (by rfl) (by rfl) (by rfl) Try.call20 ?_ ?_ ?_ ?_
        rotate_left 3
        · (go_simp; with_reducible rfl)
        · ((with_reducible refine (tre_nodes hT7).mono ?_)
           rintro e w' ⟨rfl, rfl⟩
           refine ⟨?_, trivial, hT7⟩
           with_reducible rfl)
        · (simp only [Act.put, List.setIfInBounds_toArray, List.set_cons_zero, List.set_cons_succ]; with_reducible rfl)
        clear hT7
        intro w8 hw8 hT8
        clear hw8
        repeat (first
          | (refine seq_take (v := ?_) (a' := ?_) (by rfl) ?_ ?_ ?_
             rotate_left 2
             · (intro w hSw; go_simp; with_reducible rfl)
             · (simp only [Act.put, List.setIfInBounds_toArray, List.set_cons_zero, List.set_cons_succ]; with_reducible rfl))
          | (refine seq_skip (a' := ?_) trivial (by rfl) ?_ ?_
             rotate_left
             · (simp only [Act.put, List.setIfInBounds_toArray, List.set_cons_zero, List.set_cons_succ]; with_reducible rfl)))
        refine seq_nil ?_
        have HKE := Lib.hid hT8.keepW
        clear hT8
        go_wp2
        go_ret
        exact ⟨rfl, HK0.out.trans HKE.out⟩
  · have hfr : bits BinOp.andNot IntKind.u32 a0 1 = a0 / 2 ^ 1 * 2 ^ 1 := andNot_low a0 1 h0 h1 (by decide)
    obtain ⟨q, hq⟩ : ∃ q, q = a0 / 2 ^ 1 := ⟨_, rfl⟩
    obtain ⟨fr, hfe⟩ : ∃ fr, fr = 2 ^ 1 * q := ⟨_, rfl⟩
    have hfr2 : bits BinOp.andNot IntKind.u32 a0 1 = fr := by rw [hfr, hfe, ← hq, Int.mul_comm]
    have hf0 : 0 ≤ fr := by rw [hfe, hq]; omega
    have hf1 : fr + 2 ≤ 4294967296 := by rw [hfe, hq]; omega
    have hf31 : ∀ k : Int, 0 ≤ k → k < 2 → (fr + k) / 2 ^ 31 = fr / 2 ^ 31 := fun k k0 k1 => by rw [hfe, hq]; omega
    obtain ⟨far, hfar, hg0, hg1, hg2⟩ := xor_far fr hf0 (by omega)
    have HQE := Lib.hid hfe
    have HF31 := Lib.hid hf31
    have HG2 := Lib.hid hg2
    clear hfr hq hfe hf31 hg2 h0 h1
    go_wp2_with fail
    refine (tre_new 34 W0 (by decide) (by decide)).mono ?_
    rintro e W1 ⟨rfl, hT⟩
    have HT := Lib.hid hT
    clear hT
    go_wp2_with fail
    go_loopw [33] (fun i wr => ∃ m : Nat, i = .int .u32 m ∧ m ≤ 2 ∧ Hid (∃ t, Tre W0 (W0.heap.size + 1) 34 (total 1 m) t (kvn fr m) (fun _ => False) wr ∧ Ways t ((downs m).map (fun k => fr + k)))) (fun i _ => 2 - (intOf i).toNat)
    case atStart => exact ⟨0, rfl, by omega, Lib.hid ⟨.nil, HT.out, Ways.nil⟩⟩
    case round =>
      obtain ⟨m, rfl, hm, HR⟩ := hrel
      clear HT
      by_cases hlt : m < 2
      · obtain ⟨t, hT, hW⟩ := HR.out
        have hlk : lack 32 0 (fr + m) t = wants 1 m := by
          rw [hW (fr + m) (by omega) (by omega), HQE.out]
          exact lk_wants (n := 1) (q := q) (by decide) (by simpa using hlt)
        have htot : total 1 (m + 1) ≤ 34 := by
          have := total_mono 1 (m + 1) (2 - (m + 1))
          rw [show m + 1 + (2 - (m + 1)) = 2 by omega, total_is.2.1] at this
          exact this
        have hput := tre_put_yes hT (key := fr + m) (v := 1) (by rw [kvn_length]; omega) (by omega) (by omega) ⟨by decide, by decide⟩ (by rw [hlk]; exact htot)
        rw [hlk, kvn_put] at hput
        have HW2 := Lib.hid (hW.put (fr + m) (total 1 m) (by omega) (by omega))
        have HPUT := Lib.hid hput
        have hmi : (m : Int) < 2 := by omega
        have hadd : (fr + (m : Int)) % 4294967296 = fr + (m : Int) := by omega
        have hadd1 : ((m : Int) + 1) % 4294967296 = ((m + 1 : Nat) : Int) := by omega
        clear hT hW hlk htot hput HR
        go_wp2_with fail
        refine HPUT.out.mono ?_
        rintro e W2 ⟨rfl, hT2, -⟩
        have HT2 := Lib.hid hT2
        clear hT2 HPUT
        go_wp2
        go_roundw
        case rel => exact ⟨m + 1, by go_num, by omega, Lib.hid ⟨_, HT2.out, HW2.out⟩⟩
        case measure => simp [intOf]; omega
      · have hmp : m = 2 := by omega
        subst hmp
        obtain ⟨t, hT, hW⟩ := HR.out
        rw [total_is.2.1] at hT
        have HT := Lib.hid hT
        have HW := Lib.hid hW
        clear hT hW HR hm
        have hrange := HT.out.range
        have hfl : lack 32 0 far t = 32 := by
          rw [HW.out far hg0 hg1]
          refine lk_far (fr := fr) ?_ hg0 hg1 HG2.out ⟨hf0, by omega⟩ ?_
          · intro k hk
            obtain ⟨j, hj, rfl⟩ := List.mem_map.1 hk
            obtain ⟨j0, j1⟩ := (downs_mem 2 j).1 hj
            exact HF31.out j j0 (by omega)
          · exact List.mem_map.2 ⟨0, (downs_mem 2 0).2 ⟨by omega, by omega⟩, by omega⟩
        have hfl0 : lack 32 0 fr t = 0 := HW.out.mem fr (List.mem_map.2 ⟨0, (downs_mem 2 0).2 ⟨by omega, by omega⟩, by omega⟩) hf0 (by omega)
        have HFL := Lib.hid hfl
        have HFL0 := Lib.hid hfl0
        have HLEN := Lib.hid (kvn_length fr 2)
        obtain ⟨ag, hag, hags⟩ : ∃ ag, ofL (vs ((kvn fr 2).filter (inS 0 4294967295))) = ag ∧ ag.s = 2 := ⟨_, rfl, by rw [filter_whole hrange, vs_kvn]; exact sum_kvn.2.1⟩
        obtain ⟨gc, gs, gmn, gmx⟩ := ag
        dsimp only at hags
        subst hags
        have HAG := Lib.hid hag
        have HFO := Lib.hid (show ∀ W, Keep wr W → Calls Try.prog 18 #[.pointer (some ⟨W0.heap.size + 1, 0, none⟩), .agg #[.int .u32 0, .int .u32 4294967295]] W fun e w' => e = .returned (.agg #[.int .i64 gc, .int .i64 2, .int .i64 gmn, .int .i64 gmx]) ∧ Keep W w' from fun W hk => by have := tre_fold (HT.out.kept hk) (by rw [HLEN.out]; omega) 0 4294967295; rw [HAG.out] at this; exact this)
        have run1 := run_sum ⟨gc, 2, gmn, gmx⟩
        dsimp only at run1
        clear hrange hfl hfl0 hag
        go_wp2_with fail
        have hKc := (Keep.refl wr).drew
        refine seq_region (S := fun _ => True) [⟨0, 64, 8796093022208⟩, ⟨1, 8796093022208, 17592186044416⟩, ⟨0, 32, 35184372088832⟩, ⟨6, 52776558133248, 70368744177664⟩, ⟨10, 70368744177664, 140737488355328⟩, ⟨16, 140737488355392, 281474976710656⟩, ⟨16, 140737488355329, 562949953421312⟩, ⟨80, 703687441776640, 1125899906842624⟩, ⟨176, 1548112371908608, 2251799813685248⟩, ⟨272, 2392537302040576, 4503599627370496⟩, ⟨528, 4644337115725824, 9007199254740992⟩, ⟨1280, 9007199254740992, 18014398509481984⟩, ⟨2048, 18014398509482048, 36028797018963968⟩, ⟨2048, 18014398509481984, 72057594037927936⟩, ⟨14336, 126100789566373888, 144115188075855872⟩, ⟨18432, 162129586585337856, 288230376151711744⟩, ⟨2048, 18014398509481986, 576460752303423488⟩, ⟨67584, 594475150812905472, 1152921504606846976⟩, ⟨165888, 1459166279268040704, 2305843009213693952⟩, ⟨264192, 2323857407723175936, 4611686018427387904⟩] [(0, false), (2, false), (1, true), (3, false), (4, false), (5, false), (6, false), (7, false), (8, true), (9, false), (10, false), (11, false), (12, false), (13, false), (16, false), (17, false), (14, true), (15, false), (18, false), (19, false)] rfl (by kernel_rfl) (by kernel_rfl) (fun _ _ d _ _ h => by cases d <;> exact h) trivial ?_
        simp only [rowsOf, rowAt, gslot, List.map_cons, List.map_nil, List.getElem?_toArray, List.getElem?_cons_zero, List.getElem?_cons_succ]
        repeat (first
          | (refine seq_take (v := ?_) (a' := ?_) (by rfl) ?_ ?_ ?_
             rotate_left 2
             · (intro w hSw; go_simp; with_reducible rfl)
             · (simp only [Act.put, List.setIfInBounds_toArray, List.set_cons_zero, List.set_cons_succ]; with_reducible rfl))
          | (refine seq_skip (a' := ?_) trivial (by rfl) ?_ ?_
             rotate_left
             · (simp only [Act.put, List.setIfInBounds_toArray, List.set_cons_zero, List.set_cons_succ]; with_reducible rfl)))
        refine seq_callR (R := fun w' => Keep wr w') (f := 20) (args := ?_) (v := ?_) (a' := ?_) (by rfl) (by rfl) (by rfl) Try.call20 ?_ ?_ ?_ ?_
        rotate_left 3
        · (go_simp; with_reducible rfl)
        · ((with_reducible refine (tre_nodes (HT.out.kept hKc)).mono ?_)
           rintro e w' ⟨rfl, rfl⟩
           refine ⟨?_, trivial, hKc⟩
           with_reducible rfl)
        · (simp only [Act.put, List.setIfInBounds_toArray, List.set_cons_zero, List.set_cons_succ]; with_reducible rfl)
        clear hKc
        intro w2 hw2 hKc
        clear hw2
        repeat (first
          | (refine seq_take (v := ?_) (a' := ?_) (by rfl) ?_ ?_ ?_
             rotate_left 2
             · (intro w hSw; go_simp; with_reducible rfl)
             · (simp only [Act.put, List.setIfInBounds_toArray, List.set_cons_zero, List.set_cons_succ]; with_reducible rfl))
          | (refine seq_skip (a' := ?_) trivial (by rfl) ?_ ?_
             rotate_left
             · (simp only [Act.put, List.setIfInBounds_toArray, List.set_cons_zero, List.set_cons_succ]; with_reducible rfl)))
        refine seq_callR (R := fun w' => Keep wr w') (f := 13) (args := ?_) (v := ?_) (a' := ?_) (by rfl) (by rfl) (by rfl) Try.call13 ?_ ?_ ?_ ?_
        rotate_left 3
        · (go_simp; with_reducible rfl)
        · ((with_reducible refine (tre_put_no (HT.out.kept hKc) hg0 (by omega) (by rw [HFL.out]; omega)).mono ?_)
           rintro e w' ⟨rfl, hk⟩
           refine ⟨?_, trivial, hKc.trans hk⟩
           with_reducible rfl)
        · (simp only [Act.put, List.setIfInBounds_toArray, List.set_cons_zero, List.set_cons_succ]; with_reducible rfl)
        clear hKc
        intro w3 hw3 hKc
        clear hw3
        repeat (first
          | (refine seq_take (v := ?_) (a' := ?_) (by rfl) ?_ ?_ ?_
             rotate_left 2
             · (intro w hSw; go_simp; with_reducible rfl)
             · (simp only [Act.put, List.setIfInBounds_toArray, List.set_cons_zero, List.set_cons_succ]; with_reducible rfl))
          | (refine seq_skip (a' := ?_) trivial (by rfl) ?_ ?_
             rotate_left
             · (simp only [Act.put, List.setIfInBounds_toArray, List.set_cons_zero, List.set_cons_succ]; with_reducible rfl)))
        refine seq_callR (R := fun w' => Keep wr w') (f := 18) (args := ?_) (v := ?_) (a' := ?_) (by rfl) (by rfl) (by rfl) Try.call18 ?_ ?_ ?_ ?_
        rotate_left 3
        · (go_simp; with_reducible rfl)
        · ((with_reducible refine (HFO.out _ hKc).mono ?_)
           rintro e w' ⟨rfl, hk⟩
           refine ⟨?_, trivial, hKc.trans hk⟩
           with_reducible rfl)
        · (simp only [Act.put, List.setIfInBounds_toArray, List.set_cons_zero, List.set_cons_succ]; with_reducible rfl)
        clear hKc
        intro w4 hw4 hKc
        clear hw4
        repeat (first
          | (refine seq_take (v := ?_) (a' := ?_) (by rfl) ?_ ?_ ?_
             rotate_left 2
             · (intro w hSw; go_simp; with_reducible rfl)
             · (simp only [Act.put, List.setIfInBounds_toArray, List.set_cons_zero, List.set_cons_succ]; with_reducible rfl))
          | (refine seq_skip (a' := ?_) trivial (by rfl) ?_ ?_
             rotate_left
             · (simp only [Act.put, List.setIfInBounds_toArray, List.set_cons_zero, List.set_cons_succ]; with_reducible rfl)))
        refine seq_nil ?_
        have HKw := Lib.hid hKc
        clear hKc run1
        have hput := fun W (hk : Keep w4 W) => tre_put_yes (key := fr) (v := 5) (HT.out.kept (HKw.out.trans hk)) (by rw [HLEN.out]; omega) hf0 (by omega) ⟨by decide, by decide⟩ (by rw [HFL0.out]; omega)
        rw [HFL0.out, Nat.add_zero] at hput
        obtain ⟨t2, ht2⟩ : ∃ t2, t2 = grow 32 0 fr 34 t := ⟨_, rfl⟩
        rw [← ht2] at hput
        obtain ⟨kv2, hkv2⟩ : ∃ kv2, kv2 = insK fr 5 (kvn fr 2) := ⟨_, rfl⟩
        rw [← hkv2] at hput
        have HPUT := Lib.hid hput
        have HLEN2 := Lib.hid (show kv2.length = 2 from by rw [hkv2]; exact kvn_again fr 1)
        have HCNT := Lib.hid (show ∀ W, Tre W0 (W0.heap.size + 1) 34 34 t2 kv2 (fun _ => False) W → (ofL (vs (kv2.filter (inS 0 4294967295)))).c = 2 from fun W hT => by
          rw [filter_whole hT.range, cnt_of hT.range (by rw [HLEN2.out]; omega), HLEN2.out]
          rfl)
        have HKIL := Lib.hid (show ∀ W, Tre W0 (W0.heap.size + 1) 34 34 t2 kv2 (fun _ => False) W → Calls Try.prog 17 #[.pointer (some ⟨W0.heap.size + 1, 0, none⟩), .agg #[.int .u32 0, .int .u32 4294967295]] W fun e w' => e = .returned (.int .i64 2) ∧ Tre W0 (W0.heap.size + 1) 34 34 t2 (kv2.filter (fun x => !inS 0 4294967295 x)) (fun _ => False) w' from fun W hT => by
          have := tre_kill hT (by rw [HLEN2.out]; omega) 0 4294967295
          rw [HCNT.out W hT] at this
          exact this.mono (fun e w' h => ⟨h.1, h.2.1⟩))
        clear hput ht2 hkv2
        go_wp2_with fail
        refine seq_region (S := fun _ => True) [⟨0, 64, 9223372036854775808⟩, ⟨0, 1, 18446744073709551616⟩, ⟨3, 27670116110564327424, 36893488147419103232⟩, ⟨4, 36893488147419103232, 73786976294838206464⟩, ⟨12, 73786976294838206464, 147573952589676412928⟩, ⟨16, 147573952589676412992, 295147905179352825856⟩, ⟨48, 442721857769029238784, 590295810358705651712⟩, ⟨16, 147573952589676412960, 1180591620717411303424⟩, ⟨208, 1918461383665793368064, 2361183241434822606848⟩, ⟨272, 2508757194024499019776, 4722366482869645213696⟩, ⟨576, 4722366482869645213696, 9444732965739290427392⟩, ⟨1024, 9444732965739290427456, 18889465931478580854784⟩, ⟨1024, 9444732965739290427392, 37778931862957161709568⟩, ⟨7168, 66113130760175032991744, 75557863725914323419136⟩, ⟨1024, 9444732965739290427394, 151115727451828646838272⟩, ⟨17408, 160560460417567937265664, 302231454903657293676544⟩, ⟨41984, 387234051595310907523072, 604462909807314587353088⟩, ⟨66560, 613907642773053877780480, 1208925819614629174706176⟩, ⟨139264, 1208925819614629174706176, 2417851639229258349412352⟩, ⟨262144, 2417851639229258349412416, 4835703278458516698824704⟩, ⟨786432, 7253554917687775048237056, 9671406556917033397649408⟩, ⟨262144, 2417851639229258349412384, 19342813113834066795298816⟩, ⟨3407872, 31432071309980358542360576, 38685626227668133590597632⟩, ⟨4456448, 41103477866897391940009984, 77371252455336267181195264⟩, ⟨16777215, 77371252455336267181195264, 16⟩] [(0, false), (1, false), (2, true), (3, false), (4, false), (5, false), (7, false), (6, true), (8, false), (9, false), (10, false), (11, false), (12, false), (14, false), (15, false), (13, true), (16, false), (17, false), (18, false), (19, false), (21, false), (20, true), (22, false), (23, false), (24, false)] rfl (by kernel_rfl) (by kernel_rfl) (fun _ _ d _ _ h => by cases d <;> exact h) trivial ?_
        simp only [rowsOf, rowAt, gslot, List.map_cons, List.map_nil, List.getElem?_toArray, List.getElem?_cons_zero, List.getElem?_cons_succ]
        repeat (first
          | (refine seq_take (v := ?_) (a' := ?_) (by rfl) ?_ ?_ ?_
             rotate_left 2
             · (intro w hSw; go_simp; with_reducible rfl)
             · (simp only [Act.put, List.setIfInBounds_toArray, List.set_cons_zero, List.set_cons_succ]; with_reducible rfl))
          | (refine seq_skip (a' := ?_) trivial (by rfl) ?_ ?_
             rotate_left
             · (simp only [Act.put, List.setIfInBounds_toArray, List.set_cons_zero, List.set_cons_succ]; with_reducible rfl)))
        refine seq_callR (R := fun w' => Tre W0 (W0.heap.size + 1) 34 34 t2 kv2 (fun _ => False) w') (f := 13) (args := ?_) (v := ?_) (a' := ?_) (by rfl) (by rfl) (by rfl) Try.call13 ?_ ?_ ?_ ?_
        rotate_left 3
        · (go_simp; with_reducible rfl)
        · ((with_reducible refine (HPUT.out _ (Keep.refl w4).drew).mono ?_)
           rintro e w' ⟨rfl, hT2, -⟩
           refine ⟨?_, trivial, hT2⟩
           with_reducible rfl)
        · (simp only [Act.put, List.setIfInBounds_toArray, List.set_cons_zero, List.set_cons_succ]; with_reducible rfl)
        intro w5 hw5 hT5
        clear hw5
        repeat (first
          | (refine seq_take (v := ?_) (a' := ?_) (by rfl) ?_ ?_ ?_
             rotate_left 2
             · (intro w hSw; go_simp; with_reducible rfl)
             · (simp only [Act.put, List.setIfInBounds_toArray, List.set_cons_zero, List.set_cons_succ]; with_reducible rfl))
          | (refine seq_skip (a' := ?_) trivial (by rfl) ?_ ?_
             rotate_left
             · (simp only [Act.put, List.setIfInBounds_toArray, List.set_cons_zero, List.set_cons_succ]; with_reducible rfl)))
        refine seq_callR (R := fun w' => Tre W0 (W0.heap.size + 1) 34 34 t2 kv2 (fun _ => False) w') (f := 20) (args := ?_) (v := ?_) (a' := ?_) (by rfl) (by rfl) (by rfl) Try.call20 ?_ ?_ ?_ ?_
        rotate_left 3
        · (go_simp; with_reducible rfl)
        · ((with_reducible refine (tre_nodes hT5).mono ?_)
           rintro e w' ⟨rfl, rfl⟩
           refine ⟨?_, trivial, hT5⟩
           with_reducible rfl)
        · (simp only [Act.put, List.setIfInBounds_toArray, List.set_cons_zero, List.set_cons_succ]; with_reducible rfl)
        clear hT5
        intro w6 hw6 hT6
        clear hw6
        repeat (first
          | (refine seq_take (v := ?_) (a' := ?_) (by rfl) ?_ ?_ ?_
             rotate_left 2
             · (intro w hSw; go_simp; with_reducible rfl)
             · (simp only [Act.put, List.setIfInBounds_toArray, List.set_cons_zero, List.set_cons_succ]; with_reducible rfl))
          | (refine seq_skip (a' := ?_) trivial (by rfl) ?_ ?_
             rotate_left
             · (simp only [Act.put, List.setIfInBounds_toArray, List.set_cons_zero, List.set_cons_succ]; with_reducible rfl)))
        refine seq_callR (R := fun w' => Tre W0 (W0.heap.size + 1) 34 34 t2 (kv2.filter (fun x => !inS 0 4294967295 x)) (fun _ => False) w') (f := 17) (args := ?_) (v := ?_) (a' := ?_) (by rfl) (by rfl) (by rfl) Try.call17 ?_ ?_ ?_ ?_
        rotate_left 3
        · (go_simp; with_reducible rfl)
        · ((with_reducible refine (HKIL.out _ hT6).mono ?_)
           rintro e w' ⟨rfl, hT7⟩
           refine ⟨?_, trivial, hT7⟩
           with_reducible rfl)
        · (simp only [Act.put, List.setIfInBounds_toArray, List.set_cons_zero, List.set_cons_succ]; with_reducible rfl)
        clear hT6
        intro w7 hw7 hT7
        clear hw7
        repeat (first
          | (refine seq_take (v := ?_) (a' := ?_) (by rfl) ?_ ?_ ?_
             rotate_left 2
             · (intro w hSw; go_simp; with_reducible rfl)
             · (simp only [Act.put, List.setIfInBounds_toArray, List.set_cons_zero, List.set_cons_succ]; with_reducible rfl))
          | (refine seq_skip (a' := ?_) trivial (by rfl) ?_ ?_
             rotate_left
             · (simp only [Act.put, List.setIfInBounds_toArray, List.set_cons_zero, List.set_cons_succ]; with_reducible rfl)))
        refine seq_callR (R := fun w' => Tre W0 (W0.heap.size + 1) 34 34 t2 (kv2.filter (fun x => !inS 0 4294967295 x)) (fun _ => False) w') (f := 20) (args := ?_) (v := ?_) (a' := ?_) (by rfl) (by rfl) (by rfl) Try.call20 ?_ ?_ ?_ ?_
        rotate_left 3
        · (go_simp; with_reducible rfl)
        · ((with_reducible refine (tre_nodes hT7).mono ?_)
           rintro e w' ⟨rfl, rfl⟩
           refine ⟨?_, trivial, hT7⟩
           with_reducible rfl)
        · (simp only [Act.put, List.setIfInBounds_toArray, List.set_cons_zero, List.set_cons_succ]; with_reducible rfl)
        clear hT7
        intro w8 hw8 hT8
        clear hw8
        repeat (first
          | (refine seq_take (v := ?_) (a' := ?_) (by rfl) ?_ ?_ ?_
             rotate_left 2
             · (intro w hSw; go_simp; with_reducible rfl)
             · (simp only [Act.put, List.setIfInBounds_toArray, List.set_cons_zero, List.set_cons_succ]; with_reducible rfl))
          | (refine seq_skip (a' := ?_) trivial (by rfl) ?_ ?_
             rotate_left
             · (simp only [Act.put, List.setIfInBounds_toArray, List.set_cons_zero, List.set_cons_succ]; with_reducible rfl)))
        refine seq_nil ?_
        have HKE := Lib.hid hT8.keepW
        clear hT8
        go_wp2
        go_ret
        exact ⟨rfl, HK0.out.trans HKE.out⟩
  · have hfr : bits BinOp.andNot IntKind.u32 a0 15 = a0 / 2 ^ 4 * 2 ^ 4 := andNot_low a0 4 h0 h1 (by decide)
    obtain ⟨q, hq⟩ : ∃ q, q = a0 / 2 ^ 4 := ⟨_, rfl⟩
    obtain ⟨fr, hfe⟩ : ∃ fr, fr = 2 ^ 4 * q := ⟨_, rfl⟩
    have hfr2 : bits BinOp.andNot IntKind.u32 a0 15 = fr := by rw [hfr, hfe, ← hq, Int.mul_comm]
    have hf0 : 0 ≤ fr := by rw [hfe, hq]; omega
    have hf1 : fr + 16 ≤ 4294967296 := by rw [hfe, hq]; omega
    have hf31 : ∀ k : Int, 0 ≤ k → k < 16 → (fr + k) / 2 ^ 31 = fr / 2 ^ 31 := fun k k0 k1 => by rw [hfe, hq]; omega
    obtain ⟨far, hfar, hg0, hg1, hg2⟩ := xor_far fr hf0 (by omega)
    have HQE := Lib.hid hfe
    have HF31 := Lib.hid hf31
    have HG2 := Lib.hid hg2
    clear hfr hq hfe hf31 hg2 h0 h1
    go_wp2_with fail
    refine (tre_new 59 W0 (by decide) (by decide)).mono ?_
    rintro e W1 ⟨rfl, hT⟩
    have HT := Lib.hid hT
    clear hT
    go_wp2_with fail
    go_loopw [33] (fun i wr => ∃ m : Nat, i = .int .u32 m ∧ m ≤ 16 ∧ Hid (∃ t, Tre W0 (W0.heap.size + 1) 59 (total 4 m) t (kvn fr m) (fun _ => False) wr ∧ Ways t ((downs m).map (fun k => fr + k)))) (fun i _ => 16 - (intOf i).toNat)
    case atStart => exact ⟨0, rfl, by omega, Lib.hid ⟨.nil, HT.out, Ways.nil⟩⟩
    case round =>
      obtain ⟨m, rfl, hm, HR⟩ := hrel
      clear HT
      by_cases hlt : m < 16
      · obtain ⟨t, hT, hW⟩ := HR.out
        have hlk : lack 32 0 (fr + m) t = wants 4 m := by
          rw [hW (fr + m) (by omega) (by omega), HQE.out]
          exact lk_wants (n := 4) (q := q) (by decide) (by simpa using hlt)
        have htot : total 4 (m + 1) ≤ 59 := by
          have := total_mono 4 (m + 1) (16 - (m + 1))
          rw [show m + 1 + (16 - (m + 1)) = 16 by omega, total_is.2.2.1] at this
          exact this
        have hput := tre_put_yes hT (key := fr + m) (v := 1) (by rw [kvn_length]; omega) (by omega) (by omega) ⟨by decide, by decide⟩ (by rw [hlk]; exact htot)
        rw [hlk, kvn_put] at hput
        have HW2 := Lib.hid (hW.put (fr + m) (total 4 m) (by omega) (by omega))
        have HPUT := Lib.hid hput
        have hmi : (m : Int) < 16 := by omega
        have hadd : (fr + (m : Int)) % 4294967296 = fr + (m : Int) := by omega
        have hadd1 : ((m : Int) + 1) % 4294967296 = ((m + 1 : Nat) : Int) := by omega
        clear hT hW hlk htot hput HR
        go_wp2_with fail
        refine HPUT.out.mono ?_
        rintro e W2 ⟨rfl, hT2, -⟩
        have HT2 := Lib.hid hT2
        clear hT2 HPUT
        go_wp2
        go_roundw
        case rel => exact ⟨m + 1, by go_num, by omega, Lib.hid ⟨_, HT2.out, HW2.out⟩⟩
        case measure => simp [intOf]; omega
      · have hmp : m = 16 := by omega
        subst hmp
        obtain ⟨t, hT, hW⟩ := HR.out
        rw [total_is.2.2.1] at hT
        have HT := Lib.hid hT
        have HW := Lib.hid hW
        clear hT hW HR hm
        have hrange := HT.out.range
        have hfl : lack 32 0 far t = 32 := by
          rw [HW.out far hg0 hg1]
          refine lk_far (fr := fr) ?_ hg0 hg1 HG2.out ⟨hf0, by omega⟩ ?_
          · intro k hk
            obtain ⟨j, hj, rfl⟩ := List.mem_map.1 hk
            obtain ⟨j0, j1⟩ := (downs_mem 16 j).1 hj
            exact HF31.out j j0 (by omega)
          · exact List.mem_map.2 ⟨0, (downs_mem 16 0).2 ⟨by omega, by omega⟩, by omega⟩
        have hfl0 : lack 32 0 fr t = 0 := HW.out.mem fr (List.mem_map.2 ⟨0, (downs_mem 16 0).2 ⟨by omega, by omega⟩, by omega⟩) hf0 (by omega)
        have HFL := Lib.hid hfl
        have HFL0 := Lib.hid hfl0
        have HLEN := Lib.hid (kvn_length fr 16)
        obtain ⟨ag, hag, hags⟩ : ∃ ag, ofL (vs ((kvn fr 16).filter (inS 0 4294967295))) = ag ∧ ag.s = 16 := ⟨_, rfl, by rw [filter_whole hrange, vs_kvn]; exact sum_kvn.2.2.1⟩
        obtain ⟨gc, gs, gmn, gmx⟩ := ag
        dsimp only at hags
        subst hags
        have HAG := Lib.hid hag
        have HFO := Lib.hid (show ∀ W, Keep wr W → Calls Try.prog 18 #[.pointer (some ⟨W0.heap.size + 1, 0, none⟩), .agg #[.int .u32 0, .int .u32 4294967295]] W fun e w' => e = .returned (.agg #[.int .i64 gc, .int .i64 16, .int .i64 gmn, .int .i64 gmx]) ∧ Keep W w' from fun W hk => by have := tre_fold (HT.out.kept hk) (by rw [HLEN.out]; omega) 0 4294967295; rw [HAG.out] at this; exact this)
        have run1 := run_sum ⟨gc, 16, gmn, gmx⟩
        dsimp only at run1
        clear hrange hfl hfl0 hag
        go_wp2_with fail
        have hKc := (Keep.refl wr).drew
        refine seq_region (S := fun _ => True) [⟨0, 64, 8796093022208⟩, ⟨1, 8796093022208, 17592186044416⟩, ⟨0, 32, 35184372088832⟩, ⟨6, 52776558133248, 70368744177664⟩, ⟨10, 70368744177664, 140737488355328⟩, ⟨16, 140737488355392, 281474976710656⟩, ⟨16, 140737488355329, 562949953421312⟩, ⟨80, 703687441776640, 1125899906842624⟩, ⟨176, 1548112371908608, 2251799813685248⟩, ⟨272, 2392537302040576, 4503599627370496⟩, ⟨528, 4644337115725824, 9007199254740992⟩, ⟨1280, 9007199254740992, 18014398509481984⟩, ⟨2048, 18014398509482048, 36028797018963968⟩, ⟨2048, 18014398509481984, 72057594037927936⟩, ⟨14336, 126100789566373888, 144115188075855872⟩, ⟨18432, 162129586585337856, 288230376151711744⟩, ⟨2048, 18014398509481986, 576460752303423488⟩, ⟨67584, 594475150812905472, 1152921504606846976⟩, ⟨165888, 1459166279268040704, 2305843009213693952⟩, ⟨264192, 2323857407723175936, 4611686018427387904⟩] [(0, false), (2, false), (1, true), (3, false), (4, false), (5, false), (6, false), (7, false), (8, true), (9, false), (10, false), (11, false), (12, false), (13, false), (16, false), (17, false), (14, true), (15, false), (18, false), (19, false)] rfl (by kernel_rfl) (by kernel_rfl) (fun _ _ d _ _ h => by cases d <;> exact h) trivial ?_
        simp only [rowsOf, rowAt, gslot, List.map_cons, List.map_nil, List.getElem?_toArray, List.getElem?_cons_zero, List.getElem?_cons_succ]
        repeat (first
          | (refine seq_take (v := ?_) (a' := ?_) (by rfl) ?_ ?_ ?_
             rotate_left 2
             · (intro w hSw; go_simp; with_reducible rfl)
             · (simp only [Act.put, List.setIfInBounds_toArray, List.set_cons_zero, List.set_cons_succ]; with_reducible rfl))
          | (refine seq_skip (a' := ?_) trivial (by rfl) ?_ ?_
             rotate_left
             · (simp only [Act.put, List.setIfInBounds_toArray, List.set_cons_zero, List.set_cons_succ]; with_reducible rfl)))
        refine seq_callR (R := fun w' => Keep wr w') (f := 20) (args := ?_) (v := ?_) (a' := ?_) (by rfl) (by rfl) (by rfl) Try.call20 ?_ ?_ ?_ ?_
        rotate_left 3
        · (go_simp; with_reducible rfl)
        · ((with_reducible refine (tre_nodes (HT.out.kept hKc)).mono ?_)
           rintro e w' ⟨rfl, rfl⟩
           refine ⟨?_, trivial, hKc⟩
           with_reducible rfl)
        · (simp only [Act.put, List.setIfInBounds_toArray, List.set_cons_zero, List.set_cons_succ]; with_reducible rfl)
        clear hKc
        intro w2 hw2 hKc
        clear hw2
        repeat (first
          | (refine seq_take (v := ?_) (a' := ?_) (by rfl) ?_ ?_ ?_
             rotate_left 2
             · (intro w hSw; go_simp; with_reducible rfl)
             · (simp only [Act.put, List.setIfInBounds_toArray, List.set_cons_zero, List.set_cons_succ]; with_reducible rfl))
          | (refine seq_skip (a' := ?_) trivial (by rfl) ?_ ?_
             rotate_left
             · (simp only [Act.put, List.setIfInBounds_toArray, List.set_cons_zero, List.set_cons_succ]; with_reducible rfl)))
        refine seq_callR (R := fun w' => Keep wr w') (f := 13) (args := ?_) (v := ?_) (a' := ?_) (by rfl) (by rfl) (by rfl) Try.call13 ?_ ?_ ?_ ?_
        rotate_left 3
        · (go_simp; with_reducible rfl)
        · ((with_reducible refine (tre_put_no (HT.out.kept hKc) hg0 (by omega) (by rw [HFL.out]; omega)).mono ?_)
           rintro e w' ⟨rfl, hk⟩
           refine ⟨?_, trivial, hKc.trans hk⟩
           with_reducible rfl)
        · (simp only [Act.put, List.setIfInBounds_toArray, List.set_cons_zero, List.set_cons_succ]; with_reducible rfl)
        clear hKc
        intro w3 hw3 hKc
        clear hw3
        repeat (first
          | (refine seq_take (v := ?_) (a' := ?_) (by rfl) ?_ ?_ ?_
             rotate_left 2
             · (intro w hSw; go_simp; with_reducible rfl)
             · (simp only [Act.put, List.setIfInBounds_toArray, List.set_cons_zero, List.set_cons_succ]; with_reducible rfl))
          | (refine seq_skip (a' := ?_) trivial (by rfl) ?_ ?_
             rotate_left
             · (simp only [Act.put, List.setIfInBounds_toArray, List.set_cons_zero, List.set_cons_succ]; with_reducible rfl)))
        refine seq_callR (R := fun w' => Keep wr w') (f := 18) (args := ?_) (v := ?_) (a' := ?_) (by rfl) (by rfl) (by rfl) Try.call18 ?_ ?_ ?_ ?_
        rotate_left 3
        · (go_simp; with_reducible rfl)
        · ((with_reducible refine (HFO.out _ hKc).mono ?_)
           rintro e w' ⟨rfl, hk⟩
           refine ⟨?_, trivial, hKc.trans hk⟩
           with_reducible rfl)
        · (simp only [Act.put, List.setIfInBounds_toArray, List.set_cons_zero, List.set_cons_succ]; with_reducible rfl)
        clear hKc
        intro w4 hw4 hKc
        clear hw4
        repeat (first
          | (refine seq_take (v := ?_) (a' := ?_) (by rfl) ?_ ?_ ?_
             rotate_left 2
             · (intro w hSw; go_simp; with_reducible rfl)
             · (simp only [Act.put, List.setIfInBounds_toArray, List.set_cons_zero, List.set_cons_succ]; with_reducible rfl))
          | (refine seq_skip (a' := ?_) trivial (by rfl) ?_ ?_
             rotate_left
             · (simp only [Act.put, List.setIfInBounds_toArray, List.set_cons_zero, List.set_cons_succ]; with_reducible rfl)))
        refine seq_nil ?_
        have HKw := Lib.hid hKc
        clear hKc run1
        have hput := fun W (hk : Keep w4 W) => tre_put_yes (key := fr) (v := 5) (HT.out.kept (HKw.out.trans hk)) (by rw [HLEN.out]; omega) hf0 (by omega) ⟨by decide, by decide⟩ (by rw [HFL0.out]; omega)
        rw [HFL0.out, Nat.add_zero] at hput
        obtain ⟨t2, ht2⟩ : ∃ t2, t2 = grow 32 0 fr 59 t := ⟨_, rfl⟩
        rw [← ht2] at hput
        obtain ⟨kv2, hkv2⟩ : ∃ kv2, kv2 = insK fr 5 (kvn fr 16) := ⟨_, rfl⟩
        rw [← hkv2] at hput
        have HPUT := Lib.hid hput
        have HLEN2 := Lib.hid (show kv2.length = 16 from by rw [hkv2]; exact kvn_again fr 15)
        have HCNT := Lib.hid (show ∀ W, Tre W0 (W0.heap.size + 1) 59 59 t2 kv2 (fun _ => False) W → (ofL (vs (kv2.filter (inS 0 4294967295)))).c = 16 from fun W hT => by
          rw [filter_whole hT.range, cnt_of hT.range (by rw [HLEN2.out]; omega), HLEN2.out]
          rfl)
        have HKIL := Lib.hid (show ∀ W, Tre W0 (W0.heap.size + 1) 59 59 t2 kv2 (fun _ => False) W → Calls Try.prog 17 #[.pointer (some ⟨W0.heap.size + 1, 0, none⟩), .agg #[.int .u32 0, .int .u32 4294967295]] W fun e w' => e = .returned (.int .i64 16) ∧ Tre W0 (W0.heap.size + 1) 59 59 t2 (kv2.filter (fun x => !inS 0 4294967295 x)) (fun _ => False) w' from fun W hT => by
          have := tre_kill hT (by rw [HLEN2.out]; omega) 0 4294967295
          rw [HCNT.out W hT] at this
          exact this.mono (fun e w' h => ⟨h.1, h.2.1⟩))
        clear hput ht2 hkv2
        go_wp2_with fail
        refine seq_region (S := fun _ => True) [⟨0, 64, 9223372036854775808⟩, ⟨0, 1, 18446744073709551616⟩, ⟨3, 27670116110564327424, 36893488147419103232⟩, ⟨4, 36893488147419103232, 73786976294838206464⟩, ⟨12, 73786976294838206464, 147573952589676412928⟩, ⟨16, 147573952589676412992, 295147905179352825856⟩, ⟨48, 442721857769029238784, 590295810358705651712⟩, ⟨16, 147573952589676412960, 1180591620717411303424⟩, ⟨208, 1918461383665793368064, 2361183241434822606848⟩, ⟨272, 2508757194024499019776, 4722366482869645213696⟩, ⟨576, 4722366482869645213696, 9444732965739290427392⟩, ⟨1024, 9444732965739290427456, 18889465931478580854784⟩, ⟨1024, 9444732965739290427392, 37778931862957161709568⟩, ⟨7168, 66113130760175032991744, 75557863725914323419136⟩, ⟨1024, 9444732965739290427394, 151115727451828646838272⟩, ⟨17408, 160560460417567937265664, 302231454903657293676544⟩, ⟨41984, 387234051595310907523072, 604462909807314587353088⟩, ⟨66560, 613907642773053877780480, 1208925819614629174706176⟩, ⟨139264, 1208925819614629174706176, 2417851639229258349412352⟩, ⟨262144, 2417851639229258349412416, 4835703278458516698824704⟩, ⟨786432, 7253554917687775048237056, 9671406556917033397649408⟩, ⟨262144, 2417851639229258349412384, 19342813113834066795298816⟩, ⟨3407872, 31432071309980358542360576, 38685626227668133590597632⟩, ⟨4456448, 41103477866897391940009984, 77371252455336267181195264⟩, ⟨16777215, 77371252455336267181195264, 16⟩] [(0, false), (1, false), (2, true), (3, false), (4, false), (5, false), (7, false), (6, true), (8, false), (9, false), (10, false), (11, false), (12, false), (14, false), (15, false), (13, true), (16, false), (17, false), (18, false), (19, false), (21, false), (20, true), (22, false), (23, false), (24, false)] rfl (by kernel_rfl) (by kernel_rfl) (fun _ _ d _ _ h => by cases d <;> exact h) trivial ?_
        simp only [rowsOf, rowAt, gslot, List.map_cons, List.map_nil, List.getElem?_toArray, List.getElem?_cons_zero, List.getElem?_cons_succ]
        repeat (first
          | (refine seq_take (v := ?_) (a' := ?_) (by rfl) ?_ ?_ ?_
             rotate_left 2
             · (intro w hSw; go_simp; with_reducible rfl)
             · (simp only [Act.put, List.setIfInBounds_toArray, List.set_cons_zero, List.set_cons_succ]; with_reducible rfl))
          | (refine seq_skip (a' := ?_) trivial (by rfl) ?_ ?_
             rotate_left
             · (simp only [Act.put, List.setIfInBounds_toArray, List.set_cons_zero, List.set_cons_succ]; with_reducible rfl)))
        refine seq_callR (R := fun w' => Tre W0 (W0.heap.size + 1) 59 59 t2 kv2 (fun _ => False) w') (f := 13) (args := ?_) (v := ?_) (a' := ?_) (by rfl) (by rfl) (by rfl) Try.call13 ?_ ?_ ?_ ?_
        rotate_left 3
        · (go_simp; with_reducible rfl)
        · ((with_reducible refine (HPUT.out _ (Keep.refl w4).drew).mono ?_)
           rintro e w' ⟨rfl, hT2, -⟩
           refine ⟨?_, trivial, hT2⟩
           with_reducible rfl)
        · (simp only [Act.put, List.setIfInBounds_toArray, List.set_cons_zero, List.set_cons_succ]; with_reducible rfl)
        intro w5 hw5 hT5
        clear hw5
        repeat (first
          | (refine seq_take (v := ?_) (a' := ?_) (by rfl) ?_ ?_ ?_
             rotate_left 2
             · (intro w hSw; go_simp; with_reducible rfl)
             · (simp only [Act.put, List.setIfInBounds_toArray, List.set_cons_zero, List.set_cons_succ]; with_reducible rfl))
          | (refine seq_skip (a' := ?_) trivial (by rfl) ?_ ?_
             rotate_left
             · (simp only [Act.put, List.setIfInBounds_toArray, List.set_cons_zero, List.set_cons_succ]; with_reducible rfl)))
        refine seq_callR (R := fun w' => Tre W0 (W0.heap.size + 1) 59 59 t2 kv2 (fun _ => False) w') (f := 20) (args := ?_) (v := ?_) (a' := ?_) (by rfl) (by rfl) (by rfl) Try.call20 ?_ ?_ ?_ ?_
        rotate_left 3
        · (go_simp; with_reducible rfl)
        · ((with_reducible refine (tre_nodes hT5).mono ?_)
           rintro e w' ⟨rfl, rfl⟩
           refine ⟨?_, trivial, hT5⟩
           with_reducible rfl)
        · (simp only [Act.put, List.setIfInBounds_toArray, List.set_cons_zero, List.set_cons_succ]; with_reducible rfl)
        clear hT5
        intro w6 hw6 hT6
        clear hw6
        repeat (first
          | (refine seq_take (v := ?_) (a' := ?_) (by rfl) ?_ ?_ ?_
             rotate_left 2
             · (intro w hSw; go_simp; with_reducible rfl)
             · (simp only [Act.put, List.setIfInBounds_toArray, List.set_cons_zero, List.set_cons_succ]; with_reducible rfl))
          | (refine seq_skip (a' := ?_) trivial (by rfl) ?_ ?_
             rotate_left
             · (simp only [Act.put, List.setIfInBounds_toArray, List.set_cons_zero, List.set_cons_succ]; with_reducible rfl)))
        refine seq_callR (R := fun w' => Tre W0 (W0.heap.size + 1) 59 59 t2 (kv2.filter (fun x => !inS 0 4294967295 x)) (fun _ => False) w') (f := 17) (args := ?_) (v := ?_) (a' := ?_) (by rfl) (by rfl) (by rfl) Try.call17 ?_ ?_ ?_ ?_
        rotate_left 3
        · (go_simp; with_reducible rfl)
        · ((with_reducible refine (HKIL.out _ hT6).mono ?_)
           rintro e w' ⟨rfl, hT7⟩
           refine ⟨?_, trivial, hT7⟩
           with_reducible rfl)
        · (simp only [Act.put, List.setIfInBounds_toArray, List.set_cons_zero, List.set_cons_succ]; with_reducible rfl)
        clear hT6
        intro w7 hw7 hT7
        clear hw7
        repeat (first
          | (refine seq_take (v := ?_) (a' := ?_) (by rfl) ?_ ?_ ?_
             rotate_left 2
             · (intro w hSw; go_simp; with_reducible rfl)
             · (simp only [Act.put, List.setIfInBounds_toArray, List.set_cons_zero, List.set_cons_succ]; with_reducible rfl))
          | (refine seq_skip (a' := ?_) trivial (by rfl) ?_ ?_
             rotate_left
             · (simp only [Act.put, List.setIfInBounds_toArray, List.set_cons_zero, List.set_cons_succ]; with_reducible rfl)))
        refine seq_callR (R := fun w' => Tre W0 (W0.heap.size + 1) 59 59 t2 (kv2.filter (fun x => !inS 0 4294967295 x)) (fun _ => False) w') (f := 20) (args := ?_) (v := ?_) (a' := ?_) (by rfl) (by rfl) (by rfl) Try.call20 ?_ ?_ ?_ ?_
        rotate_left 3
        · (go_simp; with_reducible rfl)
        · ((with_reducible refine (tre_nodes hT7).mono ?_)
           rintro e w' ⟨rfl, rfl⟩
           refine ⟨?_, trivial, hT7⟩
           with_reducible rfl)
        · (simp only [Act.put, List.setIfInBounds_toArray, List.set_cons_zero, List.set_cons_succ]; with_reducible rfl)
        clear hT7
        intro w8 hw8 hT8
        clear hw8
        repeat (first
          | (refine seq_take (v := ?_) (a' := ?_) (by rfl) ?_ ?_ ?_
             rotate_left 2
             · (intro w hSw; go_simp; with_reducible rfl)
             · (simp only [Act.put, List.setIfInBounds_toArray, List.set_cons_zero, List.set_cons_succ]; with_reducible rfl))
          | (refine seq_skip (a' := ?_) trivial (by rfl) ?_ ?_
             rotate_left
             · (simp only [Act.put, List.setIfInBounds_toArray, List.set_cons_zero, List.set_cons_succ]; with_reducible rfl)))
        refine seq_nil ?_
        have HKE := Lib.hid hT8.keepW
        clear hT8
        go_wp2
        go_ret
        exact ⟨rfl, HK0.out.trans HKE.out⟩
  · have hfr : bits BinOp.andNot IntKind.u32 a0 31 = a0 / 2 ^ 5 * 2 ^ 5 := andNot_low a0 5 h0 h1 (by decide)
    obtain ⟨q, hq⟩ : ∃ q, q = a0 / 2 ^ 5 := ⟨_, rfl⟩
    obtain ⟨fr, hfe⟩ : ∃ fr, fr = 2 ^ 5 * q := ⟨_, rfl⟩
    have hfr2 : bits BinOp.andNot IntKind.u32 a0 31 = fr := by rw [hfr, hfe, ← hq, Int.mul_comm]
    have hf0 : 0 ≤ fr := by rw [hfe, hq]; omega
    have hf1 : fr + 32 ≤ 4294967296 := by rw [hfe, hq]; omega
    have hf31 : ∀ k : Int, 0 ≤ k → k < 32 → (fr + k) / 2 ^ 31 = fr / 2 ^ 31 := fun k k0 k1 => by rw [hfe, hq]; omega
    obtain ⟨far, hfar, hg0, hg1, hg2⟩ := xor_far fr hf0 (by omega)
    have HQE := Lib.hid hfe
    have HF31 := Lib.hid hf31
    have HG2 := Lib.hid hg2
    clear hfr hq hfe hf31 hg2 h0 h1
    go_wp2_with fail
    refine (tre_new 90 W0 (by decide) (by decide)).mono ?_
    rintro e W1 ⟨rfl, hT⟩
    have HT := Lib.hid hT
    clear hT
    go_wp2_with fail
    go_loopw [33] (fun i wr => ∃ m : Nat, i = .int .u32 m ∧ m ≤ 32 ∧ Hid (∃ t, Tre W0 (W0.heap.size + 1) 90 (total 5 m) t (kvn fr m) (fun _ => False) wr ∧ Ways t ((downs m).map (fun k => fr + k)))) (fun i _ => 32 - (intOf i).toNat)
    case atStart => exact ⟨0, rfl, by omega, Lib.hid ⟨.nil, HT.out, Ways.nil⟩⟩
    case round =>
      obtain ⟨m, rfl, hm, HR⟩ := hrel
      clear HT
      by_cases hlt : m < 32
      · obtain ⟨t, hT, hW⟩ := HR.out
        have hlk : lack 32 0 (fr + m) t = wants 5 m := by
          rw [hW (fr + m) (by omega) (by omega), HQE.out]
          exact lk_wants (n := 5) (q := q) (by decide) (by simpa using hlt)
        have htot : total 5 (m + 1) ≤ 90 := by
          have := total_mono 5 (m + 1) (32 - (m + 1))
          rw [show m + 1 + (32 - (m + 1)) = 32 by omega, total_is.2.2.2] at this
          exact this
        have hput := tre_put_yes hT (key := fr + m) (v := 1) (by rw [kvn_length]; omega) (by omega) (by omega) ⟨by decide, by decide⟩ (by rw [hlk]; exact htot)
        rw [hlk, kvn_put] at hput
        have HW2 := Lib.hid (hW.put (fr + m) (total 5 m) (by omega) (by omega))
        have HPUT := Lib.hid hput
        have hmi : (m : Int) < 32 := by omega
        have hadd : (fr + (m : Int)) % 4294967296 = fr + (m : Int) := by omega
        have hadd1 : ((m : Int) + 1) % 4294967296 = ((m + 1 : Nat) : Int) := by omega
        clear hT hW hlk htot hput HR
        go_wp2_with fail
        refine HPUT.out.mono ?_
        rintro e W2 ⟨rfl, hT2, -⟩
        have HT2 := Lib.hid hT2
        clear hT2 HPUT
        go_wp2
        go_roundw
        case rel => exact ⟨m + 1, by go_num, by omega, Lib.hid ⟨_, HT2.out, HW2.out⟩⟩
        case measure => simp [intOf]; omega
      · have hmp : m = 32 := by omega
        subst hmp
        obtain ⟨t, hT, hW⟩ := HR.out
        rw [total_is.2.2.2] at hT
        have HT := Lib.hid hT
        have HW := Lib.hid hW
        clear hT hW HR hm
        have hrange := HT.out.range
        have hfl : lack 32 0 far t = 32 := by
          rw [HW.out far hg0 hg1]
          refine lk_far (fr := fr) ?_ hg0 hg1 HG2.out ⟨hf0, by omega⟩ ?_
          · intro k hk
            obtain ⟨j, hj, rfl⟩ := List.mem_map.1 hk
            obtain ⟨j0, j1⟩ := (downs_mem 32 j).1 hj
            exact HF31.out j j0 (by omega)
          · exact List.mem_map.2 ⟨0, (downs_mem 32 0).2 ⟨by omega, by omega⟩, by omega⟩
        have hfl0 : lack 32 0 fr t = 0 := HW.out.mem fr (List.mem_map.2 ⟨0, (downs_mem 32 0).2 ⟨by omega, by omega⟩, by omega⟩) hf0 (by omega)
        have HFL := Lib.hid hfl
        have HFL0 := Lib.hid hfl0
        have HLEN := Lib.hid (kvn_length fr 32)
        obtain ⟨ag, hag, hags⟩ : ∃ ag, ofL (vs ((kvn fr 32).filter (inS 0 4294967295))) = ag ∧ ag.s = 32 := ⟨_, rfl, by rw [filter_whole hrange, vs_kvn]; exact sum_kvn.2.2.2⟩
        obtain ⟨gc, gs, gmn, gmx⟩ := ag
        dsimp only at hags
        subst hags
        have HAG := Lib.hid hag
        have HFO := Lib.hid (show ∀ W, Keep wr W → Calls Try.prog 18 #[.pointer (some ⟨W0.heap.size + 1, 0, none⟩), .agg #[.int .u32 0, .int .u32 4294967295]] W fun e w' => e = .returned (.agg #[.int .i64 gc, .int .i64 32, .int .i64 gmn, .int .i64 gmx]) ∧ Keep W w' from fun W hk => by have := tre_fold (HT.out.kept hk) (by rw [HLEN.out]; omega) 0 4294967295; rw [HAG.out] at this; exact this)
        have run1 := run_sum ⟨gc, 32, gmn, gmx⟩
        dsimp only at run1
        clear hrange hfl hfl0 hag
        go_wp2_with fail
        have hKc := (Keep.refl wr).drew
        refine seq_region (S := fun _ => True) [⟨0, 64, 8796093022208⟩, ⟨1, 8796093022208, 17592186044416⟩, ⟨0, 32, 35184372088832⟩, ⟨6, 52776558133248, 70368744177664⟩, ⟨10, 70368744177664, 140737488355328⟩, ⟨16, 140737488355392, 281474976710656⟩, ⟨16, 140737488355329, 562949953421312⟩, ⟨80, 703687441776640, 1125899906842624⟩, ⟨176, 1548112371908608, 2251799813685248⟩, ⟨272, 2392537302040576, 4503599627370496⟩, ⟨528, 4644337115725824, 9007199254740992⟩, ⟨1280, 9007199254740992, 18014398509481984⟩, ⟨2048, 18014398509482048, 36028797018963968⟩, ⟨2048, 18014398509481984, 72057594037927936⟩, ⟨14336, 126100789566373888, 144115188075855872⟩, ⟨18432, 162129586585337856, 288230376151711744⟩, ⟨2048, 18014398509481986, 576460752303423488⟩, ⟨67584, 594475150812905472, 1152921504606846976⟩, ⟨165888, 1459166279268040704, 2305843009213693952⟩, ⟨264192, 2323857407723175936, 4611686018427387904⟩] [(0, false), (2, false), (1, true), (3, false), (4, false), (5, false), (6, false), (7, false), (8, true), (9, false), (10, false), (11, false), (12, false), (13, false), (16, false), (17, false), (14, true), (15, false), (18, false), (19, false)] rfl (by kernel_rfl) (by kernel_rfl) (fun _ _ d _ _ h => by cases d <;> exact h) trivial ?_
        simp only [rowsOf, rowAt, gslot, List.map_cons, List.map_nil, List.getElem?_toArray, List.getElem?_cons_zero, List.getElem?_cons_succ]
        repeat (first
          | (refine seq_take (v := ?_) (a' := ?_) (by rfl) ?_ ?_ ?_
             rotate_left 2
             · (intro w hSw; go_simp; with_reducible rfl)
             · (simp only [Act.put, List.setIfInBounds_toArray, List.set_cons_zero, List.set_cons_succ]; with_reducible rfl))
          | (refine seq_skip (a' := ?_) trivial (by rfl) ?_ ?_
             rotate_left
             · (simp only [Act.put, List.setIfInBounds_toArray, List.set_cons_zero, List.set_cons_succ]; with_reducible rfl)))
        refine seq_callR (R := fun w' => Keep wr w') (f := 20) (args := ?_) (v := ?_) (a' := ?_) (by rfl) (by rfl) (by rfl) Try.call20 ?_ ?_ ?_ ?_
        rotate_left 3
        · (go_simp; with_reducible rfl)
        · ((with_reducible refine (tre_nodes (HT.out.kept hKc)).mono ?_)
           rintro e w' ⟨rfl, rfl⟩
           refine ⟨?_, trivial, hKc⟩
           with_reducible rfl)
        · (simp only [Act.put, List.setIfInBounds_toArray, List.set_cons_zero, List.set_cons_succ]; with_reducible rfl)
        clear hKc
        intro w2 hw2 hKc
        clear hw2
        repeat (first
          | (refine seq_take (v := ?_) (a' := ?_) (by rfl) ?_ ?_ ?_
             rotate_left 2
             · (intro w hSw; go_simp; with_reducible rfl)
             · (simp only [Act.put, List.setIfInBounds_toArray, List.set_cons_zero, List.set_cons_succ]; with_reducible rfl))
          | (refine seq_skip (a' := ?_) trivial (by rfl) ?_ ?_
             rotate_left
             · (simp only [Act.put, List.setIfInBounds_toArray, List.set_cons_zero, List.set_cons_succ]; with_reducible rfl)))
        refine seq_callR (R := fun w' => Keep wr w') (f := 13) (args := ?_) (v := ?_) (a' := ?_) (by rfl) (by rfl) (by rfl) Try.call13 ?_ ?_ ?_ ?_
        rotate_left 3
        · (go_simp; with_reducible rfl)
        · ((with_reducible refine (tre_put_no (HT.out.kept hKc) hg0 (by omega) (by rw [HFL.out]; omega)).mono ?_)
           rintro e w' ⟨rfl, hk⟩
           refine ⟨?_, trivial, hKc.trans hk⟩
           with_reducible rfl)
        · (simp only [Act.put, List.setIfInBounds_toArray, List.set_cons_zero, List.set_cons_succ]; with_reducible rfl)
        clear hKc
        intro w3 hw3 hKc
        clear hw3
        repeat (first
          | (refine seq_take (v := ?_) (a' := ?_) (by rfl) ?_ ?_ ?_
             rotate_left 2
             · (intro w hSw; go_simp; with_reducible rfl)
             · (simp only [Act.put, List.setIfInBounds_toArray, List.set_cons_zero, List.set_cons_succ]; with_reducible rfl))
          | (refine seq_skip (a' := ?_) trivial (by rfl) ?_ ?_
             rotate_left
             · (simp only [Act.put, List.setIfInBounds_toArray, List.set_cons_zero, List.set_cons_succ]; with_reducible rfl)))
        refine seq_callR (R := fun w' => Keep wr w') (f := 18) (args := ?_) (v := ?_) (a' := ?_) (by rfl) (by rfl) (by rfl) Try.call18 ?_ ?_ ?_ ?_
        rotate_left 3
        · (go_simp; with_reducible rfl)
        · ((with_reducible refine (HFO.out _ hKc).mono ?_)
           rintro e w' ⟨rfl, hk⟩
           refine ⟨?_, trivial, hKc.trans hk⟩
           with_reducible rfl)
        · (simp only [Act.put, List.setIfInBounds_toArray, List.set_cons_zero, List.set_cons_succ]; with_reducible rfl)
        clear hKc
        intro w4 hw4 hKc
        clear hw4
        repeat (first
          | (refine seq_take (v := ?_) (a' := ?_) (by rfl) ?_ ?_ ?_
             rotate_left 2
             · (intro w hSw; go_simp; with_reducible rfl)
             · (simp only [Act.put, List.setIfInBounds_toArray, List.set_cons_zero, List.set_cons_succ]; with_reducible rfl))
          | (refine seq_skip (a' := ?_) trivial (by rfl) ?_ ?_
             rotate_left
             · (simp only [Act.put, List.setIfInBounds_toArray, List.set_cons_zero, List.set_cons_succ]; with_reducible rfl)))
        refine seq_nil ?_
        have HKw := Lib.hid hKc
        clear hKc run1
        have hput := fun W (hk : Keep w4 W) => tre_put_yes (key := fr) (v := 5) (HT.out.kept (HKw.out.trans hk)) (by rw [HLEN.out]; omega) hf0 (by omega) ⟨by decide, by decide⟩ (by rw [HFL0.out]; omega)
        rw [HFL0.out, Nat.add_zero] at hput
        obtain ⟨t2, ht2⟩ : ∃ t2, t2 = grow 32 0 fr 90 t := ⟨_, rfl⟩
        rw [← ht2] at hput
        obtain ⟨kv2, hkv2⟩ : ∃ kv2, kv2 = insK fr 5 (kvn fr 32) := ⟨_, rfl⟩
        rw [← hkv2] at hput
        have HPUT := Lib.hid hput
        have HLEN2 := Lib.hid (show kv2.length = 32 from by rw [hkv2]; exact kvn_again fr 31)
        have HCNT := Lib.hid (show ∀ W, Tre W0 (W0.heap.size + 1) 90 90 t2 kv2 (fun _ => False) W → (ofL (vs (kv2.filter (inS 0 4294967295)))).c = 32 from fun W hT => by
          rw [filter_whole hT.range, cnt_of hT.range (by rw [HLEN2.out]; omega), HLEN2.out]
          rfl)
        have HKIL := Lib.hid (show ∀ W, Tre W0 (W0.heap.size + 1) 90 90 t2 kv2 (fun _ => False) W → Calls Try.prog 17 #[.pointer (some ⟨W0.heap.size + 1, 0, none⟩), .agg #[.int .u32 0, .int .u32 4294967295]] W fun e w' => e = .returned (.int .i64 32) ∧ Tre W0 (W0.heap.size + 1) 90 90 t2 (kv2.filter (fun x => !inS 0 4294967295 x)) (fun _ => False) w' from fun W hT => by
          have := tre_kill hT (by rw [HLEN2.out]; omega) 0 4294967295
          rw [HCNT.out W hT] at this
          exact this.mono (fun e w' h => ⟨h.1, h.2.1⟩))
        clear hput ht2 hkv2
        go_wp2_with fail
        refine seq_region (S := fun _ => True) [⟨0, 64, 9223372036854775808⟩, ⟨0, 1, 18446744073709551616⟩, ⟨3, 27670116110564327424, 36893488147419103232⟩, ⟨4, 36893488147419103232, 73786976294838206464⟩, ⟨12, 73786976294838206464, 147573952589676412928⟩, ⟨16, 147573952589676412992, 295147905179352825856⟩, ⟨48, 442721857769029238784, 590295810358705651712⟩, ⟨16, 147573952589676412960, 1180591620717411303424⟩, ⟨208, 1918461383665793368064, 2361183241434822606848⟩, ⟨272, 2508757194024499019776, 4722366482869645213696⟩, ⟨576, 4722366482869645213696, 9444732965739290427392⟩, ⟨1024, 9444732965739290427456, 18889465931478580854784⟩, ⟨1024, 9444732965739290427392, 37778931862957161709568⟩, ⟨7168, 66113130760175032991744, 75557863725914323419136⟩, ⟨1024, 9444732965739290427394, 151115727451828646838272⟩, ⟨17408, 160560460417567937265664, 302231454903657293676544⟩, ⟨41984, 387234051595310907523072, 604462909807314587353088⟩, ⟨66560, 613907642773053877780480, 1208925819614629174706176⟩, ⟨139264, 1208925819614629174706176, 2417851639229258349412352⟩, ⟨262144, 2417851639229258349412416, 4835703278458516698824704⟩, ⟨786432, 7253554917687775048237056, 9671406556917033397649408⟩, ⟨262144, 2417851639229258349412384, 19342813113834066795298816⟩, ⟨3407872, 31432071309980358542360576, 38685626227668133590597632⟩, ⟨4456448, 41103477866897391940009984, 77371252455336267181195264⟩, ⟨16777215, 77371252455336267181195264, 16⟩] [(0, false), (1, false), (2, true), (3, false), (4, false), (5, false), (7, false), (6, true), (8, false), (9, false), (10, false), (11, false), (12, false), (14, false), (15, false), (13, true), (16, false), (17, false), (18, false), (19, false), (21, false), (20, true), (22, false), (23, false), (24, false)] rfl (by kernel_rfl) (by kernel_rfl) (fun _ _ d _ _ h => by cases d <;> exact h) trivial ?_
        simp only [rowsOf, rowAt, gslot, List.map_cons, List.map_nil, List.getElem?_toArray, List.getElem?_cons_zero, List.getElem?_cons_succ]
        repeat (first
          | (refine seq_take (v := ?_) (a' := ?_) (by rfl) ?_ ?_ ?_
             rotate_left 2
             · (intro w hSw; go_simp; with_reducible rfl)
             · (simp only [Act.put, List.setIfInBounds_toArray, List.set_cons_zero, List.set_cons_succ]; with_reducible rfl))
          | (refine seq_skip (a' := ?_) trivial (by rfl) ?_ ?_
             rotate_left
             · (simp only [Act.put, List.setIfInBounds_toArray, List.set_cons_zero, List.set_cons_succ]; with_reducible rfl)))
        refine seq_callR (R := fun w' => Tre W0 (W0.heap.size + 1) 90 90 t2 kv2 (fun _ => False) w') (f := 13) (args := ?_) (v := ?_) (a' := ?_) (by rfl) (by rfl) (by rfl) Try.call13 ?_ ?_ ?_ ?_
        rotate_left 3
        · (go_simp; with_reducible rfl)
        · ((with_reducible refine (HPUT.out _ (Keep.refl w4).drew).mono ?_)
           rintro e w' ⟨rfl, hT2, -⟩
           refine ⟨?_, trivial, hT2⟩
           with_reducible rfl)
        · (simp only [Act.put, List.setIfInBounds_toArray, List.set_cons_zero, List.set_cons_succ]; with_reducible rfl)
        intro w5 hw5 hT5
        clear hw5
        repeat (first
          | (refine seq_take (v := ?_) (a' := ?_) (by rfl) ?_ ?_ ?_
             rotate_left 2
             · (intro w hSw; go_simp; with_reducible rfl)
             · (simp only [Act.put, List.setIfInBounds_toArray, List.set_cons_zero, List.set_cons_succ]; with_reducible rfl))
          | (refine seq_skip (a' := ?_) trivial (by rfl) ?_ ?_
             rotate_left
             · (simp only [Act.put, List.setIfInBounds_toArray, List.set_cons_zero, List.set_cons_succ]; with_reducible rfl)))
        refine seq_callR (R := fun w' => Tre W0 (W0.heap.size + 1) 90 90 t2 kv2 (fun _ => False) w') (f := 20) (args := ?_) (v := ?_) (a' := ?_) (by rfl) (by rfl) (by rfl) Try.call20 ?_ ?_ ?_ ?_
        rotate_left 3
        · (go_simp; with_reducible rfl)
        · ((with_reducible refine (tre_nodes hT5).mono ?_)
           rintro e w' ⟨rfl, rfl⟩
           refine ⟨?_, trivial, hT5⟩
           with_reducible rfl)
        · (simp only [Act.put, List.setIfInBounds_toArray, List.set_cons_zero, List.set_cons_succ]; with_reducible rfl)
        clear hT5
        intro w6 hw6 hT6
        clear hw6
        repeat (first
          | (refine seq_take (v := ?_) (a' := ?_) (by rfl) ?_ ?_ ?_
             rotate_left 2
             · (intro w hSw; go_simp; with_reducible rfl)
             · (simp only [Act.put, List.setIfInBounds_toArray, List.set_cons_zero, List.set_cons_succ]; with_reducible rfl))
          | (refine seq_skip (a' := ?_) trivial (by rfl) ?_ ?_
             rotate_left
             · (simp only [Act.put, List.setIfInBounds_toArray, List.set_cons_zero, List.set_cons_succ]; with_reducible rfl)))
        refine seq_callR (R := fun w' => Tre W0 (W0.heap.size + 1) 90 90 t2 (kv2.filter (fun x => !inS 0 4294967295 x)) (fun _ => False) w') (f := 17) (args := ?_) (v := ?_) (a' := ?_) (by rfl) (by rfl) (by rfl) Try.call17 ?_ ?_ ?_ ?_
        rotate_left 3
        · (go_simp; with_reducible rfl)
        · ((with_reducible refine (HKIL.out _ hT6).mono ?_)
           rintro e w' ⟨rfl, hT7⟩
           refine ⟨?_, trivial, hT7⟩
           with_reducible rfl)
        · (simp only [Act.put, List.setIfInBounds_toArray, List.set_cons_zero, List.set_cons_succ]; with_reducible rfl)
        clear hT6
        intro w7 hw7 hT7
        clear hw7
        repeat (first
          | (refine seq_take (v := ?_) (a' := ?_) (by rfl) ?_ ?_ ?_
             rotate_left 2
             · (intro w hSw; go_simp; with_reducible rfl)
             · (simp only [Act.put, List.setIfInBounds_toArray, List.set_cons_zero, List.set_cons_succ]; with_reducible rfl))
          | (refine seq_skip (a' := ?_) trivial (by rfl) ?_ ?_
             rotate_left
             · (simp only [Act.put, List.setIfInBounds_toArray, List.set_cons_zero, List.set_cons_succ]; with_reducible rfl)))
        refine seq_callR (R := fun w' => Tre W0 (W0.heap.size + 1) 90 90 t2 (kv2.filter (fun x => !inS 0 4294967295 x)) (fun _ => False) w') (f := 20) (args := ?_) (v := ?_) (a' := ?_) (by rfl) (by rfl) (by rfl) Try.call20 ?_ ?_ ?_ ?_
        rotate_left 3
        · (go_simp; with_reducible rfl)
        · ((with_reducible refine (tre_nodes hT7).mono ?_)
           rintro e w' ⟨rfl, rfl⟩
           refine ⟨?_, trivial, hT7⟩
           with_reducible rfl)
        · (simp only [Act.put, List.setIfInBounds_toArray, List.set_cons_zero, List.set_cons_succ]; with_reducible rfl)
        clear hT7
        intro w8 hw8 hT8
        clear hw8
        repeat (first
          | (refine seq_take (v := ?_) (a' := ?_) (by rfl) ?_ ?_ ?_
             rotate_left 2
             · (intro w hSw; go_simp; with_reducible rfl)
             · (simp only [Act.put, List.setIfInBounds_toArray, List.set_cons_zero, List.set_cons_succ]; with_reducible rfl))
          | (refine seq_skip (a' := ?_) trivial (by rfl) ?_ ?_
             rotate_left
             · (simp only [Act.put, List.setIfInBounds_toArray, List.set_cons_zero, List.set_cons_succ]; with_reducible rfl)))
        refine seq_nil ?_
        have HKE := Lib.hid hT8.keepW
        clear hT8
        go_wp2
        go_ret
        exact ⟨rfl, HK0.out.trans HKE.out⟩
end Go.Proofs.Ytjhchppgecjhlaa
