/- The walk of FrameBack. -/
import Derived.Test.YtjhakgnjodocpaaFrmMath3
import Derived.Test.YtjhakgnjodocpaaFrmRef
import Derived.OpenShut
namespace Go.Proofs.Ytjhakgnjodocpaa
open Go.RowKit

theorem and_ffff (m : Int) : ∃ k : Nat, k < 65536 ∧ bits BinOp.and IntKind.i64 m 65535 = (k : Int) := by
  have e1 : (BitVec.ofInt 64 m &&& BitVec.ofInt 64 65535).toNat = (m % 18446744073709551616).toNat % 2 ^ 16 := by
    rw [BitVec.toNat_and, show (BitVec.ofInt 64 65535).toNat = 2 ^ 16 - 1 from rfl, BitVec.toNat_ofInt, Nat.and_two_pow_sub_one_eq_mod]
    rfl
  refine ⟨(m % 18446744073709551616).toNat % 2 ^ 16, Nat.mod_lt _ (by decide), ?_⟩
  show IntKind.i64.wrap ((BitVec.ofInt 64 m &&& BitVec.ofInt 64 65535).toNat : Int) = _
  rw [e1]
  have e2 : ((m % 18446744073709551616).toNat % 2 ^ 16 : Nat) < 2 ^ 16 := Nat.mod_lt _ (by decide)
  generalize ((m % 18446744073709551616).toNat % 2 ^ 16 : Nat) = y at *
  simp only [IntKind.wrap, IntKind.bits, IntKind.signed]
  simp
  omega
theorem row_lies {w : World} {base : Nat} {e : TypeId} {A : Option Addr} {n m c : Nat} {xs : List Value} (h : w.ownsRow base e 1 (.slice A n c) m xs) : Lies w w.heap.size A n xs := by
  obtain ⟨_, _, e, hl⟩ := Lies.of_row h
  cases e
  exact hl

theorem by_end {w : World} {B k c : Nat} {A : Addr} {xs : List Int} (h : xs.length ≤ k) : By w B (some A) (xs.length - k) c (xs.drop k) := by
  rw [List.drop_of_length_le h, Nat.sub_eq_zero_of_le h]
  exact ⟨Lies.nil _ _ _, Nat.zero_le _, fun h => by cases h⟩
theorem by_tail {w : World} {B b off k c : Nat} {xs : List Int} (h : By w B (some ⟨b, off, none⟩) xs.length c xs) (hk : k ≤ xs.length) : By w B (some ⟨b, off + k, none⟩) (xs.length - k) (c - k) (xs.drop k) := by
  have hc := h.cap
  refine ⟨?_, by omega, fun h => by cases h⟩
  have := h.lies.part k (xs.length - k) (by omega)
  rw [vals_part, List.take_of_length_le (by simp)] at this
  exact this
theorem slices_one {w : World} {base : Nat} {vs : List Value} {yss : List (List Int)} (h : Bod w base vs yss) : ∀ u ∈ vs, u.oneCell' = true := by
  intro u hu
  obtain ⟨i, hi⟩ := List.getElem?_of_mem hu
  have h2 : i < yss.length := by rw [← h.1]; exact (List.getElem?_eq_some_iff.1 hi).1
  obtain ⟨A, c, rfl, _⟩ := Lies.of_row (h.2 i u _ hi (List.getElem?_eq_getElem h2))
  rfl
section
variable {P : Program} {w : World}
/-- Append of a slice's elements, behind a guard that says yes. -/
theorem wpList_append_want {ops : Array Oper} {rest : List Oper} {o : Oper} {a : Act} {Q : Exit → Act → World → Prop} (hgd : Region.wanted o (yielded ops a.tmps) = true) (s x : Operand) (t : TypeId)
    (ho : o.op = .call { callee := .builtin .append, args := #[s, x], argTypes := #[t, t] })
    (base : Nat) (e : TypeId) (i : TypeInfo) (z : Value) (bytes : Nat) (ht : P.underlying t = some (.slice e)) (hi : P.info? e = some i) (hz : i.zero = some z)
    (hsize : i.size = 1) (hby : i.bytes = bytes) (hzs : z.cells.size = 1)
    (v : Value) (n : Nat) (xs : List Value) (hs : a.eval s = v) (hown : w.ownsRow base e 1 v n xs)
    (B : Nat) (A : Option Addr) (m c : Nat) (news : List Value) (hx : a.eval x = .slice A m c) (hl : Lies w B A m news) (hnil : A = none → c = 0) (h1 : ∀ u ∈ news, u.oneCell' = true)
    (h63 : n + m ≤ maxLen) (hbytes : (n + m) * bytes ≤ 140737488355328) (hbase : base ≤ w.heap.size)
    (h : ∀ A' c' w', w'.ownsRow base e 1 (.slice A' (n + m) c') (n + m) (xs ++ news) → w.grownBy w' v.ownBlock → ((Value.slice A' (n + m) c').ownBlock = v.ownBlock ∨ (Value.slice A' (n + m) c').ownBlock = some w.heap.size) → wpList P ops Q rest (a.put o.dst (.slice A' (n + m) c')) w') :
    wpList P ops Q (o :: rest) a w := by
  refine BigFrame.wpList_want hgd fun K hK => ?_
  obtain ⟨v', w', hr, h2, h3, h5⟩ := run_append_from (P := P) (w := w) base t o.type e i z bytes ht hi hz hsize hby hzs v n xs hown B A m c news hl hnil h1 h63 hbytes hbase
  obtain ⟨A', c', rfl, _⟩ := Lies.of_row h2
  unfold Oper.wp execOp
  simp only [ho, resolve, invoke, builtin, Sem.run_bind, Sem.run_pure, Result.andThen_ok, List.map_toArray, List.map_cons, List.map_nil, hs, hx, hr]
  exact hK _ _ (h A' c' w' h2 h3 h5)
end

theorem wrap_no2 (A : Option Addr) (n c : Nat) (w : World) (h : 1024 < n) :
    Calls Try.prog 17 #[.slice A n c] w (WrapNo w) := by
  go_enter Try.func17, Try.ntmps17
  go_wp2
  exact bodyPost_ret (v := .tuple #[.slice none 0 0, .int .i64 2]) (by simp [results, Try.results17, go_sem]) rfl ⟨rfl, Keep.refl _⟩

set_option maxRecDepth 100000 in
set_option maxHeartbeats 4000000 in
theorem back_core (A : Option Addr) (n c : Nat) (yss : List (List Int)) (cut : Int) (w : World) (hy : Brs w w.heap.size A n yss) (hb : ∀ ys ∈ yss, Byt ys) (hn : n ≤ 30) :
    Calls Try.prog 5 #[.slice A n c, .int .i64 cut] w fun e w' => e = .returned (.bool true) ∧ Keep w w' := by
  obtain ⟨i0, hi, hz0, hz1, hz2⟩ := info_parts infoU8
  obtain ⟨i1, hi1, hy0, hy1, hy2⟩ := info_parts infoBytes
  obtain ⟨q, hq, hcut⟩ := and_ffff cut
  have hd1 : decide (30 < (n : Int)) = false := by simp; omega
  have HN := Lib.hid hy.len
  have HY := Lib.hid hy
  clear hy
  go_enter Try.func5, Try.ntmps5
  go_wp2_with (first
    | (go_at_call 9; refine (alive_any _).mono ?_; rintro e w1 ⟨rfl, hk1⟩))
  have hs1 := hk1.size
  have HY1 := Lib.hid (HY.out.keep hk1 (Nat.le_refl _))
  go_loopw [5, 27] (fun v i wr => ∃ (j b off cv : Nat) (fs : List Int), j ≤ n ∧ i = .int .i64 j ∧ v = .slice (some ⟨b, off, none⟩) fs.length cv ∧ Hid (fs = flat (yss.take j)) ∧ Hid (∀ ys ∈ yss.take j, ys.length ≤ 1024) ∧ wr.ownsRow w1.heap.size 5 1 v fs.length (vals .u8 fs) ∧ Keep w1 wr) (fun _ i _ => n - (intOf i).toNat)
  case atStart => exact ⟨0, w1.heap.size, 0, 0, [], Nat.zero_le _, rfl, rfl, Lib.hid (by simp [flat]), Lib.hid (by simp), World.ownsRow_made (base := w1.heap.size) (e := 5) (size := 1) w1 #[] 0 (Nat.le_refl _) (Nat.zero_le _) rfl, (Keep.refl w1).alloc _⟩
  case round =>
    obtain ⟨j, b, off, cv, fs, hj, rfl, rfl, hfs, hle, hrow, hk⟩ := hrel
    have hfl : fs.length ≤ 30780 := by
      rw [hfs.out]
      have := flat_len _ hle.out
      have := List.length_take_le j yss
      omega
    have HR := Lib.hid hrow
    have hs := hk.size
    clear hrow
    by_cases hlt : j < n
    · obtain ⟨ys, hys⟩ : ∃ ys, yss[j]? = some ys := ⟨_, List.getElem?_eq_getElem (by rw [HN.out]; exact hlt)⟩
      obtain ⟨b1, off1, Aj, cj, rfl, hb1, hc, hyb⟩ := (HY1.out.keep hk hs1).get j ys hys
      have HYS := Lib.hid hys
      have HYB := Lib.hid hyb
      clear hys hyb
      by_cases hbig : 1024 < ys.length
      · have hd2 : decide (1024 < (ys.length : Int)) = true := by simp; omega
        go_wp2_with fail
        refine (wrap_no2 Aj _ cj wr hbig).mono ?_
        rintro e w3 ⟨rfl, hk3⟩
        go_wp2
        go_ret
        exact ⟨rfl, (hk1.trans hk).trans hk3⟩
      · have hsml : ys.length ≤ 1024 := by omega
        go_wp2_with fail
        refine (wrap_yes Aj _ cj ys wr w.heap.size (Nat.le_trans hs1 hs) HYB.out hsml).mono ?_
        rintro e w3 ⟨v3, rfl, hr3, hk3⟩
        have HFS := Lib.hid (show fs ++ frm ys = flat (yss.take (j + 1)) by rw [hfs.out, flat_take_succ HYS.out])
        have hzl : (frm ys).length ≤ 1026 := by rw [frm_length]; omega
        have hz0' : 0 < (frm ys).length := by rw [frm_length]; omega
        have HLE := Lib.hid (show ∀ zs ∈ yss.take (j + 1), zs.length ≤ 1024 by
          intro zs hzs
          rw [List.take_add_one, HYS.out] at hzs
          rcases List.mem_append.1 hzs with h | h
          · exact hle.out zs h
          · simp at h
            rw [h]
            exact hsml)
        generalize frm ys = zs at *
        obtain ⟨A4, c4, rfl, hy4⟩ := By.of_row hr3
        have HR3 := Lib.hid (row_keep HR.out hk3)
        have HY4 := Lib.hid hy4
        have hs3 := (hk.trans hk3).size
        clear hr3 hy4
        go_wp2_with (at_builtin; refine wpList_append_from rfl _ _ 22 rfl w1.heap.size 5 i0 (.int .u8 0) 1 Try.underlying22 hi hz0 hz1 hz2 rfl _ fs.length (vals .u8 fs) rfl HR3.out w3.heap.size A4 zs.length c4 (vals .u8 zs) rfl HY4.out.lies HY4.out.nil (vals_one _ _) (by unfold maxLen; omega) (by omega) hs3 ?_; intro A5 c5 w5 hown5 hgrow hat)
        have hk5 : Keep w1 w5 := Only.keep (hk.trans hk3) ((Only.refl (fun q => (Value.slice (some ⟨b, off, none⟩) fs.length cv).ownBlock = some q) _).grown hgrow (fun q _ e => e)) (fun q e => (HR3.out.lt q e).1)
        rw [← vals_append, ← List.length_append] at hown5
        obtain ⟨b5, off5, rfl, -⟩ := (row_lies hown5).2 (by rw [List.length_append]; omega)
        go_roundw
        case rel => exact ⟨j + 1, b5, off5, c5, fs ++ zs, hlt, by go_num, by simp, HFS, HLE, by simpa using hown5, hk5⟩
        case measure => simp [intOf]; omega
    · obtain rfl : j = n := by omega
      have hall : yss.take j = yss := List.take_of_length_le (by rw [HN.out]; exact Nat.le_refl _)
      rw [hall] at hfs hle
      have hy5 : By wr wr.heap.size (some ⟨b, off, none⟩) fs.length cv fs := ⟨row_lies HR.out, row_cap HR.out, row_nil HR.out⟩
      have hbt : Byt fs := by rw [hfs.out]; exact flat_byt yss hb
      have n5 := split_any _ _ cv fs wr wr.heap.size (Nat.le_refl _) hy5 hbt (by omega)
      unfold Splitted at n5
      rw [show spl fs = (yss, [], 0) from by rw [hfs.out]; exact spl_flat yss hle.out] at n5
      have N5 := Lib.hid n5
      have HY5 := Lib.hid hy5
      have hcap := hy5.cap
      clear n5 hy5 hall HY1 HR
      go_wp2_with fail
      refine N5.out.mono ?_
      rintro e w5 ⟨vb, vl, vs, rfl, hr5, hb5, hl5, hk5⟩
      replace hb5 : Bod w5 wr.heap.size vs yss := hb5
      replace hl5 : w5.ownsRow wr.heap.size 5 1 vl 0 [] := hl5
      rw [show vs.length = j from hb5.1.trans HN.out] at hr5
      obtain ⟨A6, c6, rfl⟩ := row_slice hr5
      obtain ⟨A7, c7, rfl⟩ := row_slice hl5
      have hkw := (hk1.trans hk).trans hk5
      have hsw := hkw.size
      have HS5 := Lib.hid (Brs.of_bod hb5 (row_lies hr5))
      have HYw := Lib.hid (HY.out.keep hkw (Nat.le_refl _))
      have HYS5 := Lib.hid (HY5.out.keep hk5 (Nat.le_refl _))
      have hs5 := hk5.size
      obtain ⟨k, hk0⟩ : ∃ k : Nat, q % (fs.length + 1) = k := ⟨_, rfl⟩
      have hkk : (q : Int) % ((fs.length : Int) + 1) = (k : Int) := by rw [← hk0, Int.natCast_emod]; rfl
      have hkl : k ≤ fs.length := by
        have := Nat.mod_lt q (show 0 < fs.length + 1 by omega)
        omega
      have hi2 : (k : Int) ≤ (cv : Int) := by omega
      have hi3 : (k : Int) ≤ (fs.length : Int) := by omega
      have hi4 : (0 : Int) ≤ (k : Int) := by omega
      clear N5 hr5 hl5 hb5 HY5 hk0
      go_wp2_with (first | (go_at_call 15; refine (rsame_is A6 j c6 A c yss w5 w5.heap.size w.heap.size (Nat.le_refl _) hsw HS5.out HYw.out (by omega)).mono ?_; rintro e w6 ⟨rfl, hk6⟩))
      obtain ⟨y1, l1, y2, e1, e2, e3⟩ := flat_cut yss k hle.out (by rw [← hfs.out]; exact hkl)
      rw [← hfs.out] at e1 e2
      have hk56 := hk5.trans hk6
      have HYS6 := Lib.hid (HYS5.out.keep hk6 hs5)
      have hs6 := hk56.size
      have n7 := split_any (some ⟨b, off, none⟩) k cv (fs.take k) w6 wr.heap.size hs6 ⟨by
        have := HYS6.out.lies.part 0 k (by omega)
        rw [vals_part, List.drop_zero] at this
        exact this, by omega, fun h => by cases h⟩ (fun x hx => hbt x (List.mem_of_mem_take hx)) (by omega)
      unfold Splitted at n7
      rw [e1] at n7
      refine n7.mono ?_
      rintro e w7 ⟨vb7, vl7, vs7, rfl, hr7, hb7, hl7, hk7⟩
      replace hb7 : Bod w7 w6.heap.size vs7 y1 := hb7
      replace hl7 : w7.ownsRow w6.heap.size 5 1 vl7 l1.length (vals .u8 l1) := hl7
      have hl1 : l1.length ≤ 30780 := by
        have := (spl_count _ (fs.take k) (Nat.le_refl _)).2
        rw [e1] at this
        have h2 := List.length_take_le k fs
        have : l1.length ≤ (fs.take k).length := this
        omega
      obtain ⟨A8, c8, rfl⟩ := row_slice hr7
      obtain ⟨A9, c9, rfl, hy9⟩ := By.of_row hl7
      have HY9 := Lib.hid hy9
      have HB7 := Lib.hid hb7
      have HR7 := Lib.hid hr7
      have HYS7 := Lib.hid (HYS6.out.keep hk7 hs6)
      have hl1b : Byt l1 := by
        have := (spl_facts _ (fs.take k) (Nat.le_refl _) (fun x hx => hbt x (List.mem_of_mem_take hx))).2.2.2
        rw [e1] at this
        exact this
      have E2 := Lib.hid e2
      have E3 := Lib.hid e3
      have hy12 : y1.length + y2.length = j := by rw [← HN.out, ← e3, List.length_append]
      have hk07 := hkw.trans (hk6.trans hk7)
      have HYw7 := Lib.hid (HY.out.keep hk07 (Nat.le_refl _))
      have hs07 := hk07.size
      have hs67 := hk7.size
      have J := Lib.hid (fun (T : Option Addr) (cc : Nat) (ht : By w7 w7.heap.size T (fs.length - k) cc (fs.drop k)) => join_two w7.heap.size A9 l1.length c9 l1 T (fs.length - k) cc (fs.drop k) (w7.alloc (.cells #[.slice A9 l1.length c9, .slice T (fs.length - k) cc] 22)) w7.heap.size (by simp) (World.alloc_heap_new _ _) (HY9.out.keep ((Keep.refl w7).alloc _) (Nat.le_refl _)) (ht.keep ((Keep.refl w7).alloc _) (Nat.le_refl _)) (by omega) (by omega))
      have HYS7' := Lib.hid (HYS7.out.more (Nat.le_trans hs6 hs67))
      clear n7 hr7 hb7 hl7 hy9 HYS5 HYS6 HYS7 e1 e2 e3 HS5 HYw
      go_wp2_with fail
      all_goals
        first
          | refine (J.out _ _ (by_tail HYS7'.out hkl)).mono ?_
          | refine (J.out _ _ (by_end (by omega))).mono ?_
        rintro e w8 ⟨v8, rfl, hr8, hk8⟩
        obtain ⟨A10, c10, rfl, hy10⟩ := By.of_row hr8
        have hk78 := Keep.trans ((Keep.refl w7).alloc _) hk8
        have n9 := split_any A10 _ c10 (l1 ++ fs.drop k) w8 w8.heap.size (Nat.le_refl _) hy10 (fun x hx => by rcases List.mem_append.1 hx with h | h; exact hl1b x h; exact hbt x (List.mem_of_mem_drop h)) (by omega)
        unfold Splitted at n9
        rw [E2.out] at n9
        have N9 := Lib.hid n9
        clear hr8 hk8 hy10 n9
        go_wp2_with fail
        refine N9.out.mono ?_
        rintro e w9 ⟨vb9, vl9, vs9, rfl, hr9, hb9, hl9, hk9⟩
        replace hb9 : Bod w9 w8.heap.size vs9 y2 := hb9
        replace hl9 : w9.ownsRow w8.heap.size 5 1 vl9 0 [] := hl9
        obtain ⟨A11, c11, rfl⟩ := row_slice hr9
        obtain ⟨A12, c12, rfl⟩ := row_slice hl9
        have hk79 := hk78.trans hk9
        have HBo := Lib.hid ((HB7.out.keep hk79).append (hb9.le (Nat.le_trans hs67 hk78.size)))
        have HR79 := Lib.hid (row_keep HR7.out hk79)
        have HR9 := Lib.hid hr9
        have HYw9 := Lib.hid (HYw7.out.keep hk79 hs07)
        have H71 := Lib.hid (slices_one HB7.out)
        have H91 := Lib.hid (slices_one hb9)
        have hv7 : vs7.length ≤ 30 := by rw [HB7.out.1]; omega
        have hv9 : vs9.length ≤ 30 := by rw [hb9.1]; omega
        have hs09 := (hk07.trans hk79).size
        have hk09 := hk07.trans hk79
        have HVL := Lib.hid (show vs7.length + vs9.length = j by rw [HB7.out.1, hb9.1]; exact hy12)
        clear hr9 hb9 hl9 N9
        go_wp2_with (first
          | (at_builtin; refine wpList_append_want rfl _ _ 29 rfl w9.heap.size 22 i1 (.slice none 0 0) 24 Try.underlying29 hi1 hy0 hy1 hy2 rfl (.slice (some ⟨w9.heap.size, 0, none⟩) 0 0) 0 [] rfl (World.ownsRow_made w9 #[] 0 (Nat.le_refl _) (Nat.zero_le _) rfl) w9.heap.size A8 vs7.length c8 vs7 rfl ((row_lies HR79.out).keep ((Keep.refl w9).alloc _) (Nat.le_refl _)) (row_nil HR79.out) H71.out (by unfold maxLen; omega) (by omega) (by simp) ?_; intro A13 c13 w13 hown13 hgrow13 hat13; have hk13 : Keep w9 w13 := Only.keep ((Keep.refl w9).alloc _) ((Only.refl (fun q => q = w9.heap.size) _).grown hgrow13 (fun q _ e => (Option.some.inj (show some w9.heap.size = some q from e)).symm)) (fun q e => Nat.le_of_eq e.symm); rw [Nat.zero_add, List.nil_append] at hown13; rw [Nat.zero_add]; have hs13 := hk13.size; have HO13 := Lib.hid hown13; have HR13 := Lib.hid (fun q hq => (hown13.lt q hq).1); clear hown13 hgrow13 hat13)
          | (at_builtin; refine wpList_append_want rfl _ _ 29 rfl w9.heap.size 22 i1 (.slice none 0 0) 24 Try.underlying29 hi1 hy0 hy1 hy2 rfl (.slice A13 vs7.length c13) vs7.length vs7 rfl HO13.out w9.heap.size A11 vs9.length c11 vs9 rfl ((row_lies HR9.out).keep hk13 (Nat.le_refl _)) (row_nil HR9.out) H91.out (by unfold maxLen; omega) (by omega) hs13 ?_; intro A14 c14 w14 hown14 hgrow14 hat14; have hk14 : Keep w9 w14 := Only.keep hk13 ((Only.refl (fun q => w9.heap.size ≤ q) _).grown hgrow14 (fun q _ e => HR13.out q e)) (fun q e => e); rw [HVL.out] at hown14; rw [HVL.out]; have hbr := Brs.of_bod (HBo.out.keep hk14) (row_lies hown14); rw [E3.out] at hbr; have HS14 := Lib.hid hbr; have HYw14 := Lib.hid (HYw9.out.keep hk14 hs09); have hs14 := (hk09.trans hk14).size; clear hown14 hgrow14 hat14 hbr)
          | (go_at_call 15; refine (rsame_is A14 j c14 A c yss w14 w14.heap.size w.heap.size (Nat.le_refl _) hs14 HS14.out HYw14.out (by omega)).mono ?_; rintro e w15 ⟨rfl, hk15⟩))
        go_ret
        exact ⟨rfl, (hk09.trans hk14).trans hk15⟩

set_option maxHeartbeats 1000000 in
theorem back_long (A : Option Addr) (n c : Nat) (cut : Int) (w : World) (h : decide (30 < (n : Int)) = true) :
    Calls Try.prog 5 #[.slice A n c, .int .i64 cut] w fun e w' => e = .returned (.bool true) ∧ Keep w w' := by
  go_enter Try.func5, Try.ntmps5
  go_wp2_with (go_at_call 9; refine (alive_any _).mono ?_; rintro e w0 ⟨rfl, hk0⟩)
  go_ret
  exact ⟨rfl, hk0⟩

theorem FrameBack_std (a0 : Option Addr) (l0 c0 : Nat) (z0 : List (List Int)) (a1 : Int) (_w1 : (Lit.int .i64 a1).wf = true) (w : World) (h0 : Arg2 w a0 l0 z0) :
    Calls Try.prog 5 #[.slice a0 l0 c0, .int .i64 a1] w fun e w' => e = .returned (.bool true) ∧ Below w.heap.size w w' := by
  by_cases hn : l0 ≤ 30
  · exact back_core a0 l0 c0 z0 a1 w h0.1 (fun ys h => (h0.2 ys h).1) hn
  · exact back_long a0 l0 c0 a1 w (by simp; omega)
end Go.Proofs.Ytjhakgnjodocpaa
