/- SegtreeAll: a walk. -/
import Derived.Test.YtopengbflnoneaaSegAlive
import Derived.Test.YtopengbflnoneaaSegArg
import Derived.Test.YtopengbflnoneaaAggRef2
import Derived.Test.YtopengbflnoneaaAggEqM
import Derived.Test.YtopengbflnoneaaArr2
namespace Go.Proofs.Ytopengbflnoneaa
open Go.RowKit

theorem infoI64 : (Try.prog.info? 2).map (fun i => (i.zero, i.size, i.bytes)) = some (some (.int .i64 0), 1, 8) := by kernel_rfl
theorem one_news (w : World) (v : Int) : ∀ j u, ([.int .i64 v] : List Value)[j]? = some u → (w.alloc (.cells #[.int .i64 v] 2)).cell? ((⟨w.heap.size, 0, none⟩ : Addr).add j) = some u := by
  intro j u hu
  have h := World.alloc_heap_new w (.cells #[.int .i64 v] 2)
  rw [addr_add, Nat.zero_add]
  generalize w.alloc (.cells #[.int .i64 v] 2) = V at h ⊢
  rcases j with _ | j
  · simpa [World.cell?, h] using hu
  · simp at hu
/-- The values so far, of the keys in a span, beside the tree and its pairs. -/
def CollI (W0 : World) (n : Nat) (t : Sh) (kvs : List (Int × Int)) (vb B1 : Nat) (A1 : Option Addr) (L c1 : Nat) (zs : List Int) (vsl : Value) (X : World) : Prop :=
  ∃ (B : Option Addr) (cB g : Nat), vsl = .slice B zs.length cB ∧ X.ownsRow vb 2 1 (.slice B zs.length cB) zs.length (vals .i64 zs) ∧ (Value.slice B zs.length cB).ownBlock = some g ∧ (g = vb ∨ B1 ≤ g) ∧
    Tre W0 (W0.heap.size + 1) 1048576 n t kvs (fun k => k = g) X ∧ X.ownsRow (vb + 1) 61 2 (.slice A1 L c1) L (prs kvs) ∧ B1 ≤ X.heap.size
theorem CollI.keep {W0 : World} {n : Nat} {t : Sh} {kvs : List (Int × Int)} {vb B1 : Nat} {A1 : Option Addr} {L c1 : Nat} {zs : List Int} {vsl : Value} {X Y : World} (h : CollI W0 n t kvs vb B1 A1 L c1 zs vsl X) (hk : Keep X Y) : CollI W0 n t kvs vb B1 A1 L c1 zs vsl Y := by
  obtain ⟨B, cB, g, q1, q2, q3, q4, q5, q6, q7⟩ := h
  exact ⟨B, cB, g, q1, ownsRow_only q2 (Only.of_keep (fun _ => False) hk) (fun _ _ h => h), q3, q4, q5.kept hk, ownsRow_only q6 (Only.of_keep (fun _ => False) hk) (fun _ _ h => h), Nat.le_trans q7 hk.size⟩
theorem take_next {kvs : List (Int × Int)} {j : Nat} {p : Int × Int} (h : kvs[j]? = some p) (lo hi : Int) : (kvs.take (j + 1)).filter (inS lo hi) = (kvs.take j).filter (inS lo hi) ++ (if inS lo hi p then [p] else []) := by
  rw [List.take_add_one, h, List.filter_append]
  cases hc : inS lo hi p <;> simp [hc]
set_option maxRecDepth 100000 in
set_option maxHeartbeats 8000000 in
theorem SegtreeAll_std (A : Option Addr) (len cap : Nat) (zs : List Int) (kl s : Spn) (w : World) (row : Arr .u32 w A len zs) (_hk : kl.ok) (_hs : s.ok) :
    Calls Try.prog 7 #[.slice A len cap, .agg #[.int .u32 kl.lo, .int .u32 kl.hi], .agg #[.int .u32 s.lo, .int .u32 s.hi]] w fun e w' => e = .returned (.bool true) ∧ Below w.heap.size w w' := by
  have HR := Lib.hid row
  clear row
  by_cases hlen : len ≤ 40
  · have hb1 := (SpB.new w kl.lo kl.hi).keep ((Keep.refl _).alloc (.cells #[.int .u32 s.lo, .int .u32 s.hi] 36))
    have hb2 := SpB.new (w.alloc (.cells #[.int .u32 kl.lo, .int .u32 kl.hi] 36)) s.lo s.hi
    simp only [World.size_alloc] at hb2
    have HB1 := Lib.hid hb1
    have HB2 := Lib.hid hb2
    have HKV := Lib.hid (((Keep.refl w).alloc (.cells #[.int .u32 kl.lo, .int .u32 kl.hi] 36)).alloc (.cells #[.int .u32 s.lo, .int .u32 s.hi] 36))
    clear hb1 hb2
    have hlI : decide (40 < (len : Int)) = false := decide_eq_false (by omega)
    go_enter Try.func7, Try.ntmps7
    go_wp2_with fail
    generalize (w.alloc (.cells #[.int .u32 kl.lo, .int .u32 kl.hi] 36)).alloc (.cells #[.int .u32 s.lo, .int .u32 s.hi] 36) = V at *
    refine (alive_any V).mono ?_
    rintro e W0 ⟨rfl, hk0⟩
    have HS1 := Lib.hid (HB1.out.keep hk0)
    have HS2 := Lib.hid (HB2.out.keep hk0)
    have HK0 := Lib.hid (HKV.out.trans hk0)
    clear hk0 HB1 HB2 HKV
    go_wp2_with fail
    refine (tre_new 1048576 W0 (by decide) (by decide)).mono ?_
    rintro e W1 ⟨rfl, hT⟩
    have HT := Lib.hid hT
    clear hT
    go_wp2_with fail
    go_loopw [25] (fun i wr => ∃ k : Nat, i = .int .i64 k ∧ k ≤ len ∧ Hid (∃ n t kvs, Tre W0 (W0.heap.size + 1) 1048576 n t kvs (fun _ => False) wr ∧ n ≤ 33 * k ∧ kvs.length ≤ k)) (fun i _ => len - (intOf i).toNat)
    case atStart => exact ⟨0, rfl, by omega, Lib.hid ⟨0, .nil, [], HT.out, by omega, by simp⟩⟩
    case round =>
      obtain ⟨k, rfl, hk, HX⟩ := hrel
      clear HT
      by_cases hlt : k < len
      · obtain ⟨n, t, kvs, hT, hn, hkl⟩ := HX.out
        have hKw : Keep w wr := HK0.out.trans hT.keepW
        obtain ⟨b, off, e, hb, hc⟩ := HR.out.2.1.2 (by omega)
        subst e
        have hzl : zs.length = len := by have := HR.out.2.1.1; rwa [vals_length] at this
        have hkz : k < zs.length := by omega
        obtain ⟨v, hv⟩ : ∃ v, zs[k]? = some v := ⟨_, List.getElem?_eq_getElem hkz⟩
        have hvr := bounds_u32' (HR.out.2.2 v (List.mem_of_getElem? hv))
        have c0 : wr.cell? ⟨b, off + k, none⟩ = some (.int .u32 v) := by
          rw [hKw.cell (p := ⟨b, off + k, none⟩) hb, hc k hlt, vals_getD _ _ _ hkz]
          rw [List.getD_eq_getElem?_getD, hv]
          rfl
        have hkI : (k : Int) < (len : Int) := by omega
        have hkk : (k : Int) * (k : Int) ≤ 40 * 40 := Int.mul_le_mul (by omega) (by omega) (by omega) (by omega)
        have hkk0 : 0 ≤ (k : Int) * (k : Int) := Int.mul_nonneg (by omega) (by omega)
        have hlk := lack_le 32 0 v t
        have hput := tre_put_yes hT (key := v) (v := (k : Int) * (k : Int) - 9) (by omega) hvr.1 hvr.2 ⟨by omega, by omega⟩ (by omega)
        have HPUT := Lib.hid hput
        have HLK := Lib.hid (show n + lack 32 0 v t ≤ 33 * (k + 1) by omega)
        have HKL := Lib.hid (insK_len (key := v) (v := (k : Int) * (k : Int) - 9) hkl)
        clear hT hn hkl hKw hc hv hvr hkz hput hlk HX
        go_wp2_with fail
        refine HPUT.out.mono ?_
        rintro e W2 ⟨rfl, hT2, -⟩
        generalize n + lack 32 0 v t = n2 at *
        generalize insK v ((k : Int) * (k : Int) - 9) kvs = kvs2 at *
        generalize grow 32 0 v n t = t2 at *
        obtain ⟨p0, p1⟩ := (HS1.out.keep hT2.keepW).cells
        have HT2 := Lib.hid hT2
        clear hT2 HPUT c0 hkk hkk0
        go_wp2_with fail
        all_goals first
          | exact ⟨⟨k + 1, by go_num, by omega, Lib.hid ⟨_, _, _, HT2.out, HLK.out, HKL.out⟩⟩, by simp [intOf]; omega⟩
          | (refine (tre_kill HT2.out (by have := HKL.out; omega) kl.lo kl.hi).mono ?_
             rintro e W3 ⟨rfl, hT3, -⟩
             have HT3 := Lib.hid hT3
             clear hT3 p0 p1
             go_wp2
             exact ⟨⟨k + 1, by go_num, by omega, Lib.hid ⟨_, _, _, HT3.out, HLK.out, Nat.le_trans (List.length_filter_le _ _) HKL.out⟩⟩, by simp [intOf]; omega⟩)
      · have hke : k = len := by omega
        subst hke
        obtain ⟨n, t, kvs, hT, hn, hkl⟩ := HX.out
        have hkI : ¬ (k : Int) < (k : Int) := by omega
        clear HX hlt hk
        have HT := Lib.hid hT
        have HKL := Lib.hid hkl
        clear hT hkl hn
        go_wp2_with fail
        have hk0 : Keep wr (wr.alloc (.cells #[] 2)) := (Keep.refl wr).alloc _
        have HW0k := Lib.hid HT.out.keepW.size
        have hrow0 := World.ownsRow_made (base := wr.heap.size) (e := 2) (size := 1) wr #[] 0 (by simp) (by simp) rfl
        have hsX : (wr.alloc (.cells #[] 2)).heap.size = wr.heap.size + 1 := by simp
        have HTx := Lib.hid (HT.out.keep hk0)
        have HROW0 := Lib.hid hrow0
        have HSX := Lib.hid hsX
        clear hk0 hrow0 hsX HT
        generalize wr.alloc (.cells #[] 2) = X0 at *
        refine (pairs_some HTx.out (by have := HKL.out; omega) 1000 (by decide) (by decide)).mono ?_
        rintro e X1 ⟨A1, c1, rfl, hrow1, hk1⟩
        have htk : kvs.take 1000 = kvs := List.take_of_length_le (by have := HKL.out; omega)
        rw [htk] at hrow1 ⊢
        obtain ⟨L, hL⟩ : ∃ L, L = kvs.length := ⟨_, rfl⟩
        rw [← hL] at hrow1 ⊢
        have HLL := Lib.hid hL
        have HROW1 := Lib.hid hrow1
        have hsz1 := hk1.size
        have HW0 := Lib.hid (show W0.heap.size ≤ wr.heap.size from HW0k.out)
        have HT1 := Lib.hid ((HTx.out.kept hk1).mono (Pr' := fun k => k = wr.heap.size) (fun k hk => by subst hk; exact .inr ⟨Nat.le_refl _, by rw [HSX.out]; omega⟩))
        have HV1 := Lib.hid (ownsRow_only HROW0.out (Only.of_keep (fun _ => False) hk1) (fun _ _ h => h))
        have HSZ1 := Lib.hid (show wr.heap.size + 1 ≤ X1.heap.size by rw [← HSX.out]; exact hsz1)
        have hst : CollI W0 n t kvs wr.heap.size X1.heap.size A1 L c1 (vs ((kvs.take 0).filter (inS s.lo s.hi))) (.slice (some ⟨wr.heap.size, 0, none⟩) 0 0) X1 := ⟨_, 0, wr.heap.size, rfl, HV1.out, rfl, .inl rfl, HT1.out, by rw [← HSX.out]; exact HROW1.out, Nat.le_refl _⟩
        have hpb : ∀ g, (Value.slice A1 L c1).ownBlock = some g → wr.heap.size + 1 ≤ g ∧ g < X1.heap.size := fun g e => by rw [← HSX.out]; exact HROW1.out.lt g e
        have HST := Lib.hid hst
        have HPB := Lib.hid hpb
        clear hk1 htk hL hrow1 hsz1 HTx HROW0 hst hpb HT1 HV1 HROW1
        obtain ⟨i0, hi, hz0, hz1, hz2⟩ := info_parts infoI64
        generalize wr.heap.size = vb at *
        go_wp2_with fail
        go_loopw [11, 50] (fun vsl i X => ∃ j : Nat, i = .int .i64 j ∧ j ≤ L ∧ (∃ B l cB, vsl = .slice B l cB) ∧ Hid (CollI W0 n t kvs vb X1.heap.size A1 L c1 (vs ((kvs.take j).filter (inS s.lo s.hi))) vsl X)) (fun _ i _ => L - (intOf i).toNat)
        case atStart => exact ⟨0, rfl, by omega, ⟨_, _, _, rfl⟩, HST⟩
        case round =>
          obtain ⟨j, rfl, hj, ⟨B, l, cB, rfl⟩, HC⟩ := hrel
          clear HST
          have hL40 : L ≤ 40 := Nat.le_trans (by rw [HLL.out]; exact HKL.out) hlen
          by_cases hjl : j < L
          · obtain ⟨p, hp⟩ : ∃ p, kvs[j]? = some p := ⟨_, List.getElem?_eq_getElem (by rw [← HLL.out]; exact hjl)⟩
            obtain ⟨B', cB', g, q1, q2, q3, q4, q5, q6, q7⟩ := HC.out
            obtain ⟨gp, capp, hA⟩ : ∃ gp cap, Value.slice A1 L c1 = .slice (some ⟨gp, 0, none⟩) L cap := by
              rcases q6.2 with ⟨e, h0⟩ | ⟨g, cap, cur, e, _⟩
              · exfalso; simp at e; omega
              · exact ⟨g, cap, e⟩
            cases hA
            obtain ⟨e0, e1⟩ := prs_get kvs j p hp
            have hpl : (prs kvs).length = L * 2 := by rw [prs_length, HLL.out]
            have c0 := (q6.cellAt (j * 2) (by omega)).trans e0
            have c1' := (q6.cellAt (j * 2 + 1) (by omega)).trans e1
            obtain ⟨x0, x1⟩ := (HS2.out.keep q5.keepW).cells
            have hgpl := (HPB.out gp rfl)
            have hjI : (j : Int) < (L : Int) := by omega
            have hvb := HW0.out
            have hgW : W0.heap.size ≤ g := by have := HSZ1.out; rcases q4 with h | h <;> omega
            have hwl : w.heap.size + 1 < wr.heap.size := (HS2.out.keep q5.keepW).lt
            have hnx := take_next hp s.lo s.hi
            have hcl : ((kvs.take j).filter (inS s.lo s.hi)).length ≤ 40 := Nat.le_trans (List.length_filter_le _ _) (by rw [List.length_take]; have := HKL.out; omega)
            by_cases hin : inS s.lo s.hi p = true
            · rw [if_pos hin] at hnx
              have hnv : vs ((kvs.take (j + 1)).filter (inS s.lo s.hi)) = vs ((kvs.take j).filter (inS s.lo s.hi)) ++ [p.2] := by rw [hnx, vs_append]; rfl
              have hzl : (vs ((kvs.take j).filter (inS s.lo s.hi))).length ≤ 40 := by rw [vs_length]; exact hcl
              have HNV := Lib.hid hnv
              simp only [inS, decide_eq_true_eq] at hin
              have hin1 : decide (s.lo ≤ p.1) = true := decide_eq_true hin.1
              have hin2 : decide (p.1 ≤ s.hi) = true := decide_eq_true hin.2
              clear hnx hnv hcl hin
              generalize vs ((kvs.take j).filter (inS s.lo s.hi)) = zz at *
              obtain ⟨rfl, hl, rfl⟩ : B = B' ∧ l = zz.length ∧ cB = cB' := by simpa using q1
              rw [← hl] at q2 q3 hzl
              have HL := Lib.hid hl
              have HQ2 := Lib.hid q2
              have HQ3 := Lib.hid q3
              have HQ5 := Lib.hid q5
              have HQ6 := Lib.hid q6
              have hnews := one_news (wr.alloc (.cells #[.int .u32 p.1, .int .i64 p.2] 61)) p.2
              rw [World.size_alloc] at hnews
              have HNEWS := Lib.hid hnews
              have HONE := Lib.hid (show ∀ u ∈ ([.int .i64 p.2] : List Value), u.oneCell' = true from by intro u hu; simp at hu; subst hu; rfl)
              have hml : l + 1 ≤ maxLen := by unfold maxLen; omega
              have HBY := Lib.hid (show (l + 1) * 8 ≤ 140737488355328 by omega)
              have HBS := Lib.hid (show vb ≤ ((wr.alloc (.cells #[.int .u32 p.1, .int .i64 p.2] 61)).alloc (.cells #[.int .i64 p.2] 2)).heap.size by simp; have := HSZ1.out; omega)
              have HOG : Hid (∀ w6 : World, ((wr.alloc (.cells #[.int .u32 p.1, .int .i64 p.2] 61)).alloc (.cells #[.int .i64 p.2] 2)).grownBy w6 (Value.slice B l cB).ownBlock → Only (fun k => k = g) wr w6) := Lib.hid (fun w6 hg6 => (((Only.refl (fun k => k = g) wr).alloc _).alloc _).grown hg6 (fun k _ e => by rw [HQ3.out] at e; exact (Option.some.inj e).symm))
              have hp2 : inI p.2 := (q5.range p (List.mem_of_getElem? hp)).2.2
              have HP2 := Lib.hid hp2
              clear q1 q2 q3 q5 q6 hnews hl hzl hp2 e0 e1 hpl
              go_wp2_with (at_builtin; go_must (refine wpList_append_sz rfl _ _ 57 rfl vb 2 i0 (.int .i64 0) 1 8 Try.underlying57 hi hz0 hz1 hz2 rfl (by decide) _ l (vals .i64 zz) rfl ((HQ2.out.alloc _).alloc _) ⟨wr.heap.size + 1, 0, none⟩ 1 1 [.int .i64 p.2] rfl rfl HNEWS.out HONE.out hml HBY.out HBS.out ?_); intro A6 c6 w6 hown6 hgrow6 hbl6; (have hO6 := HOG.out w6 hgrow6); (have HO6 := Lib.hid hO6); (have HW6 := Lib.hid hown6); (have HBL := Lib.hid hbl6); clear hO6 hown6 hgrow6 hbl6)
              obtain ⟨g6, hg6, hgc⟩ : ∃ g6, (Value.slice A6 (l + 1) c6).ownBlock = some g6 ∧ (g6 = g ∨ wr.heap.size ≤ g6) := by
                rcases HBL.out with e | e
                · exact ⟨g, e.trans HQ3.out, .inl rfl⟩
                · exact ⟨wr.heap.size + 2, by simpa using e, .inr (by omega)⟩
              have hlt6 : g6 < w6.heap.size := (HW6.out.lt g6 hg6).2
              have hlen6 : (zz ++ [p.2]).length = l + 1 := by rw [List.length_append, HL.out]; rfl
              have hval6 : vals .i64 (zz ++ [p.2]) = vals .i64 zz ++ [.int .i64 p.2] := by rw [vals_append]; rfl
              have hT6 : Tre W0 (W0.heap.size + 1) 1048576 n t kvs (fun k => k = g6) w6 := (HQ5.out.onlyN HO6.out (fun k hk => ⟨hk, hk ▸ hgW⟩)).mono (fun k hk => by
                subst hk
                rcases hgc with e | e
                · exact .inl e
                · exact .inr ⟨e, hlt6⟩)
              have hP6 : w6.ownsRow (vb + 1) 61 2 (.slice (some ⟨gp, 0, none⟩) L c1) L (prs kvs) := ownsRow_only HQ6.out HO6.out (fun g' e => by
                have : gp = g' := Option.some.inj e
                subst this
                omega)
              have hnew : CollI W0 n t kvs vb X1.heap.size (some ⟨gp, 0, none⟩) L c1 (vs ((kvs.take (j + 1)).filter (inS s.lo s.hi))) (.slice A6 (l + 1) c6) w6 := by
                rw [HNV.out]
                exact ⟨A6, c6, g6, by rw [hlen6], by rw [hlen6, hval6]; exact HW6.out, by rw [hlen6]; exact hg6, by omega, hT6, hP6, Nat.le_trans q7 HO6.out.size⟩
              exact ⟨⟨j + 1, by go_num, by omega, ⟨_, _, _, rfl⟩, Lib.hid hnew⟩, by simp [intOf]; omega⟩
            · rw [if_neg hin, List.append_nil] at hnx
              have HNX := Lib.hid hnx
              have HNW := Lib.hid (HC.out.keep ((Keep.refl wr).alloc (.cells #[.int .u32 p.1, .int .i64 p.2] 61)))
              simp only [inS, decide_eq_true_eq] at hin
              clear hnx hcl q1 q2 q3 q5 q6 e0 e1 hpl HC
              by_cases hin0 : s.lo ≤ p.1
              · have hin1 : decide (s.lo ≤ p.1) = true := decide_eq_true hin0
                have hin2 : decide (p.1 ≤ s.hi) = false := decide_eq_false (fun h => hin ⟨hin0, h⟩)
                clear hin hin0
                go_wp2_with fail
                exact ⟨⟨j + 1, by go_num, by omega, ⟨_, _, _, rfl⟩, Lib.hid (by rw [HNX.out]; exact HNW.out)⟩, by simp [intOf]; omega⟩
              · have hin1 : decide (s.lo ≤ p.1) = false := decide_eq_false hin0
                clear hin hin0
                go_wp2_with fail
                exact ⟨⟨j + 1, by go_num, by omega, ⟨_, _, _, rfl⟩, Lib.hid (by rw [HNX.out]; exact HNW.out)⟩, by simp [intOf]; omega⟩
          · have hje : j = L := by omega
            subst hje
            have hjI : ¬ (j : Int) < (j : Int) := by omega
            have htk : kvs.take j = kvs := List.take_of_length_le (by rw [HLL.out]; exact Nat.le_refl _)
            obtain ⟨B', cB', g, q1, q2, q3, q4, q5, q6, q7⟩ := HC.out
            rw [htk] at q1 q2 q3
            have hzl : (vs (kvs.filter (inS s.lo s.hi))).length ≤ 40 := by rw [vs_length]; exact Nat.le_trans (List.length_filter_le _ _) (by have := HKL.out; omega)
            have hzi : ∀ z ∈ vs (kvs.filter (inS s.lo s.hi)), inI z := fun z hz => by
              obtain ⟨p, hp, rfl⟩ := List.mem_map.1 hz
              exact (q5.range p (List.mem_filter.1 hp).1).2.2
            have hcnt := (isOf _ (by omega) hzi).c
            have hkl : kvs.length ≤ 1000000 := by have := HKL.out; omega
            obtain ⟨x0, x1⟩ := (HS2.out.keep q5.keepW).cells
            have HF := Lib.hid (tre_fold q5 hkl s.lo s.hi)
            obtain ⟨rfl, hl, rfl⟩ : B = B' ∧ l = (vs (kvs.filter (inS s.lo s.hi))).length ∧ cB = cB' := by simpa using q1
            rw [← hl] at q2 q3 hzl hcnt
            have HQ2 := Lib.hid q2
            have HQ5 := Lib.hid q5
            have HKLn := Lib.hid hkl
            have HZI := Lib.hid hzi
            have HCNT := Lib.hid hcnt
            have HS2' := Lib.hid (HS2.out.keep q5.keepW)
            clear q1 q2 q3 q5 q6 hzi hl hkl htk HC hcnt
            go_wp2_with fail
            refine HF.out.mono ?_
            rintro e Z1 ⟨rfl, hz1⟩
            obtain ⟨A', c', e', hlies⟩ := Lies.of_row (ownsRow_only HQ2.out (Only.of_keep (fun _ => False) hz1) (fun _ _ h => h))
            have hAB : A' = B := by injection e' with h1 h2 h3; exact h1.symm
            rw [hAB] at hlies
            have HOF := Lib.hid (rof_any B l cB _ Z1 hlies (by omega) HZI.out)
            have HT1 := Lib.hid (HQ5.out.kept hz1)
            have HSZ := Lib.hid (HS2'.out.keep hz1)
            have HKI := Lib.hid (fun Z (hT : Tre W0 (W0.heap.size + 1) 1048576 n t kvs (fun k => k = g) Z) => tre_kill hT HKLn.out s.lo s.hi)
            clear hlies hz1 e' hAB HF HQ2 HQ5 HS2' HZI x0 x1
            generalize ofL (vs (kvs.filter (inS s.lo s.hi))) = ag at *
            obtain ⟨agc, ags, agm, agx⟩ := ag
            go_wp2_with fail
            refine HOF.out.mono ?_
            rintro e Z2 ⟨rfl, hz2⟩
            have HT2 := Lib.hid (HT1.out.kept hz2)
            obtain ⟨x0, x1⟩ := (HSZ.out.keep hz2).cells
            clear hz2 HOF
            have q1 := equal_ag agc ags agm agx
            go_wp2_with fail
            refine (HKI.out Z2 HT2.out).mono ?_
            rintro e Z3 ⟨rfl, hT3, -⟩
            have hag := HCNT.out
            subst hag
            have HK3 := Lib.hid (HK0.out.trans hT3.keepW)
            clear hT3 q1 HKI HT2
            go_wp2
            go_ret
            exact ⟨rfl, HK3.out⟩
  · have hlI : decide (40 < (len : Int)) = true := decide_eq_true (by omega)
    go_enter Try.func7, Try.ntmps7
    go_wp2_with fail
    refine (alive_any _).mono ?_
    rintro e W0 ⟨rfl, hk0⟩
    have HK0 := Lib.hid ((((Keep.refl w).alloc (.cells #[.int .u32 kl.lo, .int .u32 kl.hi] 36)).alloc (.cells #[.int .u32 s.lo, .int .u32 s.hi] 36)).trans hk0)
    clear hk0 hlen
    go_wp2
    go_ret
    exact ⟨rfl, HK0.out⟩
end Go.Proofs.Ytopengbflnoneaa
