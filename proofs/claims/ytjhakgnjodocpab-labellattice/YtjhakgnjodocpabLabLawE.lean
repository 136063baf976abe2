/- The walk of LabelLattice. -/
import Derived.Test.YtjhakgnjodocpabLabLawA
import Derived.Deep.DeepCutAuto
namespace Go.Proofs.Ytjhakgnjodocpab
open Go.RowKit

/-- A label's two cells, in block b. -/
def LbC (w : World) (b : Nat) (l : Lb) : Prop := w.cell? ⟨b, 0, none⟩ = some (.int .u8 l.lv) ∧ w.cell? ⟨b, 1, none⟩ = some (.int .u16 l.ct)
theorem LbC.keep {w w' : World} {b : Nat} {l : Lb} (h : LbC w b l) (hk : Keep w w') : LbC w' b l :=
  ⟨(hk.cell (p := ⟨b, 0, none⟩) (World.block_lt_of_cell? w _ h.1)).trans h.1, (hk.cell (p := ⟨b, 1, none⟩) (World.block_lt_of_cell? w _ h.2)).trans h.2⟩
theorem LbC.cells {w : World} {b : Nat} {l : Lb} (h : LbC w b l) : w.cell? ⟨b, 0, none⟩ = some (.int .u8 l.lv) ∧ w.cell? ⟨b, 1, none⟩ = some (.int .u16 l.ct) := h
theorem bcell {W w1 : World} (hb : Keep W w1) : (∀ b o, b < W.heap.size → w1.cell? ⟨b, o, none⟩ = W.cell? ⟨b, o, none⟩) ∧ (∀ b o, b < W.heap.size → w1.frozen? ⟨b, o, none⟩ = W.frozen? ⟨b, o, none⟩) :=
  ⟨fun b o h => hb.cell (p := ⟨b, o, none⟩) h, fun b o h => hb.frozen (p := ⟨b, o, none⟩) h⟩

set_option maxRecDepth 100000 in
set_option maxHeartbeats 4000000 in
theorem lattice_core (a b c : Lb) (x y z s u v : Bool) (w : World) (ha : a.ok) (hb : b.ok) (hc : c.ok) (hx : dm a b = x) (hy : dm b c = y) (hz : dm b a = z) (hs : dm a c = s) (hu : dm c a = u) (hv : dm c b = v) :
    Calls Try.prog 4 #[.agg #[.int .u8 a.lv, .int .u16 a.ct], .agg #[.int .u8 b.lv, .int .u16 b.ct], .agg #[.int .u8 c.lv, .int .u16 c.ct]] w fun e w' => e = .returned (.bool true) ∧ Keep w w' := by
  have q1 := equalIn_lb
  have q2 := eq4_self
  obtain ⟨HA, HB, HC⟩ := three w a b c
  have hk0 := (((Keep.refl w).alloc (.cells #[.int .u8 a.lv, .int .u16 a.ct] 24)).alloc (.cells #[.int .u8 b.lv, .int .u16 b.ct] 24)).alloc (.cells #[.int .u8 c.lv, .int .u16 c.ct] 24)
  have okab := jn_ok ha hb
  have omab := mt_ok ha hb
  go_enter Try.func4, Try.ntmps4
  go_wp2_with fail
  refine (alive_any _).mono ?_
  rintro e w1 ⟨rfl, hk1⟩
  have hA := HA.keep hk1
  have hB := HB.keep hk1
  have hC := HC.keep hk1
  have hK := hk0.trans hk1
  clear HA HB HC hk0 hk1
  have HXs := Lib.hid (And.intro hx (And.intro hy (And.intro hz (And.intro hs (And.intro hu hv)))))
  clear hx hy hz hs hu hv
  go_upto_region 4 with fail
  go_cut [8, 9] (fun s8 s9 wx => ∃ bj bm : Nat, s8 = .pointer (some ⟨bj, 0, none⟩) ∧ s9 = .pointer (some ⟨bm, 0, none⟩) ∧ LbC wx bj (jn a b) ∧ LbC wx bm (mt a b) ∧ Keep w1 wx)
  case first =>
    have HS := Lib.hid (show ∀ w', Keep w1 w' → Keep w1 w' ∧ (w'.cell? ⟨w.heap.size, 0, none⟩ = some (.int .u8 a.lv) ∧ w'.cell? ⟨w.heap.size, 1, none⟩ = some (.int .u16 a.ct)) ∧ (w'.cell? ⟨w.heap.size + 1, 0, none⟩ = some (.int .u8 b.lv) ∧ w'.cell? ⟨w.heap.size + 1, 1, none⟩ = some (.int .u16 b.ct)) from
      fun w' h => ⟨h, (hA.keep h).cells, (hB.keep h).cells⟩)
    have hlA := hA.lt
    have hlB := hB.lt
    clear hA hB hC
    have hlt2 : ∀ n : Nat, n < n + 1 + 1 := fun n => by omega
    go_region_held3 (fun w' => Keep w1 w' ∧ (w'.cell? ⟨w.heap.size, 0, none⟩ = some (.int .u8 a.lv) ∧ w'.cell? ⟨w.heap.size, 1, none⟩ = some (.int .u16 a.ct)) ∧ (w'.cell? ⟨w.heap.size + 1, 0, none⟩ = some (.int .u8 b.lv) ∧ w'.cell? ⟨w.heap.size + 1, 1, none⟩ = some (.int .u16 b.ct)))
      (first
        | exact HS.out _ (Keep.refl _).drew
        | (refine HS.out _ ?_
           repeat (first | exact hKm | exact hKj | exact Keep.refl w1 | (refine Keep.drew ?_) | (refine Below.setCell ?_ (by dsimp only; omega) _) | (refine Keep.alloc ?_ _))))
      (first
        | (go_at_call 13; refine (join_any a b _ ha hb).mono ?_; rintro e w2 ⟨rfl, hk2⟩
           have hKj : Keep w1 w2 := by
             refine Keep.trans ?_ hk2
             repeat (first | exact Keep.refl w1 | (refine Keep.drew ?_) | (refine Keep.alloc ?_ _))
           obtain ⟨hc2, hf2⟩ := bcell hk2
           have hz2 := hk2.size
           (try simp at hz2)
           (try simp at hc2)
           (try simp at hf2)
           have hl2 := hKj.size
           (try (have hy2 := Nat.lt_of_succ_le hz2; (try (have hy2' := Nat.lt_of_succ_lt hy2))))
           (try (have hw2 := Nat.lt_add_right 1 hy2)))
        | (go_at_call 15; refine (meet_any a b _ ha hb).mono ?_; rintro e w3 ⟨rfl, hk3⟩
           have hKm : Keep w1 w3 := by
             refine Keep.trans ?_ hk3
             repeat (first | exact hKj | (refine Keep.alloc ?_ _))
           obtain ⟨hc3, hf3⟩ := bcell hk3
           have hz3 := hk3.size
           (try simp at hz3)
           (try simp at hc3)
           (try simp at hf3)
           have hl3 := hKm.size
           have hle3 : w2.heap.size ≤ w3.heap.size := Nat.le_trans (by first | exact Nat.le_refl _ | (simp only [World.size_alloc]; omega)) hk3.size
           (try (have hy3 := Nat.lt_of_succ_le hz3; (try (have hy3' := Nat.lt_of_succ_lt hy3))))
           (try (have hx3 := Nat.lt_of_lt_of_le hy2 hle3))
           (try (have hx3' := Nat.lt_of_lt_of_le hy2' hle3))))
    all_goals
      go_wp2_with fail
      go_meet
      (try have n2 := Nat.ne_of_lt hy2)
      (try have n2' := Nat.ne_of_lt hy2')
      (try have n3 := Nat.ne_of_lt hy3)
      (try have n3' := Nat.ne_of_lt hy3')
      (try have m3 := Nat.ne_of_lt hx3)
      (try have m3' := Nat.ne_of_lt hx3')
      refine ⟨_, _, rfl, rfl, ⟨?_, ?_⟩, ⟨?_, ?_⟩, ?_⟩
      · first | (simp [*]; done) | (go_simp; done)
      · first | (simp [*]; done) | (go_simp; done)
      · first | (simp [*]; done) | (go_simp; done)
      · first | (simp [*]; done) | (go_simp; done)
      · repeat (first | exact hKm | exact hKj | exact Keep.refl w1 | (refine Keep.drew ?_) | (refine Below.setCell ?_ (by dsimp only; omega) _) | (refine Keep.alloc ?_ _))
  case rest =>
    obtain ⟨bj, bm, rfl, rfl, hJ, hM, hk2⟩ := hcut
    obtain ⟨hx, hy, hz, hs, hu, hv⟩ := HXs.out
    clear HXs
    have hA := hA.keep hk2
    have hB := hB.keep hk2
    have hC := hC.keep hk2
    have hK := hK.trans hk2
    clear hk2
    go_wp2_with fail
    have HS := Lib.hid (show ∀ w', Keep wc w' → Keep wc w' ∧ ((w'.cell? ⟨w.heap.size, 0, none⟩ = some (.int .u8 a.lv) ∧ w'.cell? ⟨w.heap.size, 1, none⟩ = some (.int .u16 a.ct)) ∧ (w'.cell? ⟨w.heap.size + 1, 0, none⟩ = some (.int .u8 b.lv) ∧ w'.cell? ⟨w.heap.size + 1, 1, none⟩ = some (.int .u16 b.ct)) ∧ (w'.cell? ⟨w.heap.size + 1 + 1, 0, none⟩ = some (.int .u8 c.lv) ∧ w'.cell? ⟨w.heap.size + 1 + 1, 1, none⟩ = some (.int .u16 c.ct)) ∧ (w'.cell? ⟨bj, 0, none⟩ = some (.int .u8 (jn a b).lv) ∧ w'.cell? ⟨bj, 1, none⟩ = some (.int .u16 (jn a b).ct)) ∧ (w'.cell? ⟨bm, 0, none⟩ = some (.int .u8 (mt a b).lv) ∧ w'.cell? ⟨bm, 1, none⟩ = some (.int .u16 (mt a b).ct))) from
      fun w' h => ⟨h, (hA.keep h).cells, (hB.keep h).cells, (hC.keep h).cells, (hJ.keep h).cells, (hM.keep h).cells⟩)
    clear hA hB hC hJ hM
    have hKc : Keep wc wc.drew := (Keep.refl _).drew
    have c1 := Lib.hid (dm_self ha)
    have c2 := Lib.hid hx
    have c3 := Lib.hid hy
    have c4 := Lib.hid hs
    have c5 := Lib.hid hz
    have c6 := Lib.hid hu
    have c7 := Lib.hid hv
    have c8 := Lib.hid ((dm_jn c ha hb).trans (by rw [hu, hv]))
    have c9 := Lib.hid ((mt_dm ha hb hc).trans (by rw [hs, hy]))
    have e1 : eq4 (jn a (mt a b)).lv (jn a (mt a b)).ct a.lv a.ct = true := eqL_iff.2 (jn_mt_abs b ha)
    have e2 : eq4 (mt a (jn a b)).lv (mt a (jn a b)).ct a.lv a.ct = true := eqL_iff.2 (mt_jn_abs b ha)
    have heq : eq4 a.lv a.ct b.lv b.ct = (x && z) := by
      rw [Bool.eq_iff_iff, Bool.and_eq_true]
      show eqL a b = true ↔ _
      rw [eqL_iff]
      exact ⟨fun h => ⟨by rw [← hx, ← h]; exact dm_self ha, by rw [← hz, ← h]; exact dm_self ha⟩, fun h => dm_anti (hx.trans h.1) (hz.trans h.2)⟩
    have hless : x = true → z = false → decide (nm b < nm a) = true := fun h1 h2 => by
      apply decide_eq_true
      have g1 := dm_nm ha hb (hx.trans h1)
      have g2 : nm b ≠ nm a := fun h => by
        have := nm_inj hb ha h
        rw [this, dm_self ha] at hz
        rw [← hz] at h2
        cases h2
      omega
    have HL := Lib.hid hless
    have hcs : x = false ∨ (x = true ∧ y = false ∧ (z = true ∧ s = false ∨ z = false)) ∨ (x = true ∧ y = true ∧ s = true) := by
      cases hx' : x
      · exact .inl rfl
      · cases hy' : y
        · refine .inr (.inl ⟨rfl, rfl, ?_⟩)
          cases hz' : z
          · exact .inr rfl
          · refine .inl ⟨rfl, ?_⟩
            have hab := dm_anti (hx.trans hx') (hz.trans hz')
            rw [← hs, hab, hy, hy']
        · exact .inr (.inr ⟨rfl, rfl, by rw [← hs]; exact dm_trans (hx.trans hx') (hy.trans hy')⟩)
    clear hx hy hs hz hu hv hless
    refine seq_region (S := fun w' => Keep wc w' ∧ ((w'.cell? ⟨w.heap.size, 0, none⟩ = some (.int .u8 a.lv) ∧ w'.cell? ⟨w.heap.size, 1, none⟩ = some (.int .u16 a.ct)) ∧ (w'.cell? ⟨w.heap.size + 1, 0, none⟩ = some (.int .u8 b.lv) ∧ w'.cell? ⟨w.heap.size + 1, 1, none⟩ = some (.int .u16 b.ct)) ∧ (w'.cell? ⟨w.heap.size + 1 + 1, 0, none⟩ = some (.int .u8 c.lv) ∧ w'.cell? ⟨w.heap.size + 1 + 1, 1, none⟩ = some (.int .u16 c.ct)) ∧ (w'.cell? ⟨bj, 0, none⟩ = some (.int .u8 (jn a b).lv) ∧ w'.cell? ⟨bj, 1, none⟩ = some (.int .u16 (jn a b).ct)) ∧ (w'.cell? ⟨bm, 0, none⟩ = some (.int .u8 (mt a b).lv) ∧ w'.cell? ⟨bm, 1, none⟩ = some (.int .u16 (mt a b).ct)))) [⟨0, 128, 262144⟩, ⟨0, 8, 524288⟩, ⟨0, 8, 1048576⟩, ⟨7, 1835008, 2097152⟩, ⟨8, 2097152, 4194304⟩, ⟨24, 4194304, 8388608⟩, ⟨32, 8388736, 16777216⟩, ⟨32, 8388616, 33554432⟩, ⟨32, 8388624, 67108864⟩, ⟨480, 125829120, 134217728⟩, ⟨544, 142606336, 268435456⟩, ⟨1024, 268435584, 536870912⟩, ⟨1024, 268435472, 1073741824⟩, ⟨1024, 268435488, 2147483648⟩, ⟨15360, 4026531840, 4294967296⟩, ⟨17440, 4571791360, 8589934592⟩, ⟨49184, 8598323200, 17179869184⟩, ⟨65536, 17179869312, 34359738368⟩, ⟨65536, 17179869192, 68719476736⟩, ⟨65536, 17179869216, 137438953472⟩, ⟨983040, 257698037760, 274877906944⟩, ⟨1114112, 292057776128, 549755813888⟩, ⟨2162720, 566944071680, 1099511627776⟩, ⟨4194336, 1099520016384, 2199023255552⟩, ⟨9437184, 2199023255552, 4398046511104⟩, ⟨16777216, 4398046511232, 8796093022208⟩, ⟨16777216, 4398046511112, 17592186044416⟩, ⟨16777216, 4398046511120, 35184372088832⟩, ⟨251658240, 65970697666560, 70368744177664⟩, ⟨285212672, 74766790688768, 140737488355328⟩, ⟨536870912, 140737488355456, 281474976710656⟩, ⟨536870912, 140737488355344, 562949953421312⟩, ⟨536870912, 140737488355336, 1125899906842624⟩, ⟨8053063680, 2111062325329920, 2251799813685248⟩, ⟨9143582720, 2396935348551680, 4503599627370496⟩, ⟨16777216, 4398046511112, 9007199254740992⟩, ⟨16777216, 4398046511120, 18014398509481984⟩, ⟨103095992320, 27025995810734080, 36028797018963968⟩, ⟨154635599872, 40536794692845568, 72057594037927936⟩, ⟨274894684160, 72061992084439040, 144115188075855872⟩] [(0, false), (1, false), (2, false), (3, true), (4, false), (5, false), (6, false), (7, false), (8, false), (9, true), (10, false), (11, false), (12, false), (13, false), (14, true), (15, false), (16, false), (17, false), (18, false), (19, false), (20, true), (21, false), (22, false), (23, false), (24, false), (25, false), (26, false), (27, false), (35, false), (36, false), (37, false), (28, true), (29, false), (30, false), (31, false), (32, false), (33, true), (34, false), (38, false), (39, false)] rfl (by kernel_rfl) (by kernel_rfl) (fun _ _ d _ _ h => by cases d <;> exact h) (HS.out _ hKc) ?_
    simp only [rowsOf, rowAt, gslot, List.map_cons, List.map_nil, List.getElem?_toArray, List.getElem?_cons_zero, List.getElem?_cons_succ, Option.bind_some]
    rcases hcs with rfl | ⟨rfl, rfl, ⟨rfl, rfl⟩ | rfl⟩ | ⟨rfl, rfl, rfl⟩
    all_goals
      simp only [Bool.false_and, Bool.true_and] at heq
      repeat (first
        | (refine seq_take (v := ?_) (a' := ?_) (by rfl) ?_ ?_ ?_
           rotate_left 2
           · (intro w hSw; obtain ⟨-, hSw⟩ := hSw; go_split_ands; go_simp; with_reducible rfl)
           · (simp only [Act.put, List.setIfInBounds_toArray, List.set_cons_zero, List.set_cons_succ]; with_reducible rfl))
        | (refine seq_callv (f := 11) (args := ?_) (v := ?_) (a' := ?_) (by rfl) (by rfl) (by rfl) Try.call11 ?_ ?_ ?_ ?_
           rotate_left 3
           · (go_simp; with_reducible rfl)
           · ((first
               | (with_reducible refine (dom_is a a true _ ha ha c1.out).mono ?_)
               | (with_reducible refine (dom_is a b _ _ ha hb c2.out).mono ?_)
               | (with_reducible refine (dom_is b c _ _ hb hc c3.out).mono ?_)
               | (with_reducible refine (dom_is a c _ _ ha hc c4.out).mono ?_)
               | (with_reducible refine (dom_is b a _ _ hb ha c5.out).mono ?_))
              rintro e w' ⟨rfl, hk⟩
              refine ⟨?_, HS.out _ (hKc.trans hk)⟩
              with_reducible rfl)
           · (simp only [Act.put, List.setIfInBounds_toArray, List.set_cons_zero, List.set_cons_succ]; with_reducible rfl)
           clear hKc
           intro w2 hw2
           have hKc := hw2.1
           clear hw2)
        | (refine seq_skip (a' := ?_) (HS.out _ hKc) (by rfl) ?_ ?_
           rotate_left
           · (simp only [Act.put, List.setIfInBounds_toArray, List.set_cons_zero, List.set_cons_succ]; with_reducible rfl)))
      refine seq_nil ?_
      go_wp2_with fail
    all_goals replace hKc := hKc.drew
    · refine seq_region (S := fun w' => Keep wc w' ∧ ((w'.cell? ⟨w.heap.size, 0, none⟩ = some (.int .u8 a.lv) ∧ w'.cell? ⟨w.heap.size, 1, none⟩ = some (.int .u16 a.ct)) ∧ (w'.cell? ⟨w.heap.size + 1, 0, none⟩ = some (.int .u8 b.lv) ∧ w'.cell? ⟨w.heap.size + 1, 1, none⟩ = some (.int .u16 b.ct)) ∧ (w'.cell? ⟨w.heap.size + 1 + 1, 0, none⟩ = some (.int .u8 c.lv) ∧ w'.cell? ⟨w.heap.size + 1 + 1, 1, none⟩ = some (.int .u16 c.ct)) ∧ (w'.cell? ⟨bj, 0, none⟩ = some (.int .u8 (jn a b).lv) ∧ w'.cell? ⟨bj, 1, none⟩ = some (.int .u16 (jn a b).ct)) ∧ (w'.cell? ⟨bm, 0, none⟩ = some (.int .u8 (mt a b).lv) ∧ w'.cell? ⟨bm, 1, none⟩ = some (.int .u16 (mt a b).ct)))) [⟨0, 128, 288230376151711744⟩, ⟨0, 32, 576460752303423488⟩, ⟨0, 256, 1152921504606846976⟩, ⟨7, 2017612633061982208, 2305843009213693952⟩, ⟨0, 128, 4611686018427387904⟩, ⟨0, 32, 9223372036854775808⟩, ⟨0, 8, 18446744073709551616⟩, ⟨120, 32281802128991715328, 36893488147419103232⟩, ⟨128, 36893488147419103232, 73786976294838206464⟩, ⟨256, 73786976294838206592, 147573952589676412928⟩, ⟨256, 73786976294838206496, 295147905179352825856⟩, ⟨256, 73786976294838206480, 590295810358705651712⟩, ⟨3840, 1106804644422573096960, 1180591620717411303424⟩, ⟨4352, 1254378597012249509888, 2361183241434822606848⟩, ⟨8200, 2363489084444036300800, 4722366482869645213696⟩, ⟨20480, 4722366482869645213696, 9444732965739290427392⟩, ⟨32768, 9444732965739290427520, 18889465931478580854784⟩, ⟨32768, 9444732965739290427904, 37778931862957161709568⟩, ⟨32768, 9444732965739290427424, 75557863725914323419136⟩, ⟨491520, 141670994486089356410880, 151115727451828646838272⟩, ⟨32768, 9444732965739290427520, 302231454903657293676544⟩, ⟨32768, 9444732965739290427400, 604462909807314587353088⟩, ⟨32768, 9444732965739290427424, 1208925819614629174706176⟩, ⟨7897088, 2125064917291340346163200, 2417851639229258349412352⟩, ⟨8421376, 2427296372194997639839744, 4835703278458516698824704⟩, ⟨16777216, 4835703278458516698824832, 9671406556917033397649408⟩, ⟨16777216, 4835703278458516698824720, 19342813113834066795298816⟩, ⟨16777216, 4835703278458516698824736, 38685626227668133590597632⟩, ⟨251658240, 72535549176877750482370560, 77371252455336267181195264⟩, ⟨285245440, 82216400466760523170447360, 154742504910672534362390528⟩, ⟨537427968, 154903065371090102299656192, 309485009821345068724781056⟩, ⟨1073774592, 309494454554310808015208448, 618970019642690137449562112⟩, ⟨2415919104, 618970019642690137449562112, 1237940039285380274899124224⟩, ⟨4294967296, 1237940039285380274899124232, 2475880078570760549798248448⟩, ⟨4294967296, 1237940039285380274899124736, 4951760157141521099596496896⟩, ⟨30064771072, 8665580274997661924293869568, 9903520314283042199192993792⟩, ⟨4294967296, 1237940039285380274899124232, 19807040628566084398385987584⟩, ⟨107374182400, 30948500982134506872478105600, 39614081257132168796771975168⟩, ⟨141733920768, 40852021296417549071671099392, 79228162514264337593543950336⟩, ⟨309237645312, 79228162514264337593543950336, 158456325028528675187087900672⟩, ⟨549755813888, 158456325028528675187087900680, 316912650057057350374175801344⟩, ⟨549755813888, 158456325028528675187087900928, 633825300114114700748351602688⟩, ⟨3848290697216, 1109194275199700726309615304704, 1267650600228229401496703205376⟩, ⟨549755813888, 158456325028528675187087900680, 2535301200456458802993406410752⟩, ⟨13743895347200, 3961408125713216879677197516800, 5070602400912917605986812821504⟩, ⟨18141941858304, 5229058725941446281173900722176, 10141204801825835211973625643008⟩, ⟨39582418599936, 10141204801825835211973625643008, 20282409603651670423947251286016⟩, ⟨70368744177664, 20282409603651670423947251286144, 40564819207303340847894502572032⟩, ⟨70368744177664, 20282409603651670423947251286024, 81129638414606681695789005144064⟩, ⟨70368744177664, 20282409603651670423947251286032, 162259276829213363391578010288128⟩, ⟨1055531162664960, 304236144054775056359208769290240, 324518553658426726783156020576256⟩, ⟨1196268651020288, 344800963262078397207103271862272, 649037107316853453566312041152512⟩, ⟨3448068464705536, 669319516920505123990259292438528, 1298074214633706907132624082305024⟩, ⟨4503599627370496, 1298074214633706907132624082305032, 2596148429267413814265248164610048⟩, ⟨4503599627370496, 1298074214633706907132624082305040, 5192296858534827628530496329220096⟩, ⟨31525197391593472, 9086519502435948349928368576135168, 10384593717069655257060992658440192⟩, ⟨40602765390512128, 11702950341307013834617563992031232, 20769187434139310514121985316880384⟩, ⟨76631562409476096, 20789469843742962184545932568166400, 41538374868278621028243970633760768⟩, ⟨144115188075855872, 41538374868278621028243970633760784, 83076749736557242056487941267521536⟩, ⟨144115188075855872, 41538374868278621028243970633760776, 166153499473114484112975882535043072⟩, ⟨1008806316530991104, 290768624077950347197707794436325376, 332306998946228968225951765070086144⟩, ⟨1297107061426880512, 373865656224111240924619682955132928, 664613997892457936451903530140172288⟩, ⟨2305913377957871616, 664634280302061588122327477391458304, 1329227995784915872903807060280344576⟩, ⟨9223372036854775807, 1329227995784915872903807060280344576, 64⟩] [(0, false), (1, false), (2, false), (4, false), (5, false), (6, false), (3, true), (7, true), (8, false), (9, false), (10, false), (11, false), (12, true), (13, false), (14, false), (15, false), (16, false), (17, false), (18, false), (20, false), (21, false), (22, false), (19, true), (23, true), (24, false), (25, false), (26, false), (27, false), (28, true), (29, false), (30, false), (31, false), (32, false), (33, false), (34, false), (36, false), (35, true), (37, false), (38, false), (39, false), (40, false), (41, false), (43, false), (42, true), (44, false), (45, false), (46, false), (47, false), (48, false), (49, false), (50, true), (51, false), (52, false), (53, false), (54, false), (55, false), (56, false), (57, false), (58, false), (59, false), (60, true), (61, false), (62, false), (63, false)] rfl (by kernel_rfl) (by kernel_rfl) (fun _ _ d _ _ h => by cases d <;> exact h) (HS.out _ hKc) ?_
      simp only [rowsOf, rowAt, gslot, List.map_cons, List.map_nil, List.getElem?_toArray, List.getElem?_cons_zero, List.getElem?_cons_succ, Option.bind_some]
      cases u <;> cases s
      all_goals
        repeat (first
          | (refine seq_take (v := ?_) (a' := ?_) (by rfl) ?_ ?_ ?_
             rotate_left 2
             · (intro w hSw; obtain ⟨-, hSw⟩ := hSw; go_split_ands; go_simp; with_reducible rfl)
             · (simp only [Act.put, List.setIfInBounds_toArray, List.set_cons_zero, List.set_cons_succ]; with_reducible rfl))
          | (refine seq_callv (f := 11) (args := ?_) (v := ?_) (a' := ?_) (by rfl) (by rfl) (by rfl) Try.call11 ?_ ?_ ?_ ?_
             rotate_left 3
             · (go_simp; with_reducible rfl)
             · ((first
                 | (with_reducible refine (dom_is c (jn a b) _ _ hc okab c8.out).mono ?_)
                 | (with_reducible refine (dom_is c a _ _ hc ha c6.out).mono ?_)
                 | (with_reducible refine (dom_is c b _ _ hc hb c7.out).mono ?_)
                 | (with_reducible refine (dom_is (mt a b) c _ _ omab hc c9.out).mono ?_)
                 | (with_reducible refine (dom_is a c _ _ ha hc c4.out).mono ?_)
                 | (with_reducible refine (dom_is b c _ _ hb hc c3.out).mono ?_)
                 | (with_reducible refine (dom_is a b _ _ ha hb c2.out).mono ?_))
                rintro e w' ⟨rfl, hk⟩
                refine ⟨?_, HS.out _ (hKc.trans hk)⟩
                with_reducible rfl)
             · (simp only [Act.put, List.setIfInBounds_toArray, List.set_cons_zero, List.set_cons_succ]; with_reducible rfl)
             clear hKc
             intro w2 hw2
             have hKc := hw2.1
             clear hw2)
          | (refine seq_callv (f := 13) (args := ?_) (v := ?_) (a' := ?_) (by rfl) (by rfl) (by rfl) Try.call13 ?_ ?_ ?_ ?_
             rotate_left 3
             · (go_simp; with_reducible rfl)
             · ((with_reducible refine (join_any a (mt a b) _ ha omab).mono ?_)
                rintro e w' ⟨rfl, hk⟩
                refine ⟨?_, HS.out _ (hKc.trans hk)⟩
                with_reducible rfl)
             · (simp only [Act.put, List.setIfInBounds_toArray, List.set_cons_zero, List.set_cons_succ]; with_reducible rfl)
             clear hKc
             intro w2 hw2
             have hKc := hw2.1
             clear hw2)
          | (refine seq_callv (f := 15) (args := ?_) (v := ?_) (a' := ?_) (by rfl) (by rfl) (by rfl) Try.call15 ?_ ?_ ?_ ?_
             rotate_left 3
             · (go_simp; with_reducible rfl)
             · ((with_reducible refine (meet_any a (jn a b) _ ha okab).mono ?_)
                rintro e w' ⟨rfl, hk⟩
                refine ⟨?_, HS.out _ (hKc.trans hk)⟩
                with_reducible rfl)
             · (simp only [Act.put, List.setIfInBounds_toArray, List.set_cons_zero, List.set_cons_succ]; with_reducible rfl)
             clear hKc
             intro w2 hw2
             have hKc := hw2.1
             clear hw2)
          | (refine seq_skip (a' := ?_) (HS.out _ hKc) (by rfl) ?_ ?_
             rotate_left
             · (simp only [Act.put, List.setIfInBounds_toArray, List.set_cons_zero, List.set_cons_succ]; with_reducible rfl)))
        refine seq_nil ?_
        go_wp2
        go_ret
        exact ⟨rfl, hK.trans hKc⟩
    · refine seq_region (S := fun w' => Keep wc w' ∧ ((w'.cell? ⟨w.heap.size, 0, none⟩ = some (.int .u8 a.lv) ∧ w'.cell? ⟨w.heap.size, 1, none⟩ = some (.int .u16 a.ct)) ∧ (w'.cell? ⟨w.heap.size + 1, 0, none⟩ = some (.int .u8 b.lv) ∧ w'.cell? ⟨w.heap.size + 1, 1, none⟩ = some (.int .u16 b.ct)) ∧ (w'.cell? ⟨w.heap.size + 1 + 1, 0, none⟩ = some (.int .u8 c.lv) ∧ w'.cell? ⟨w.heap.size + 1 + 1, 1, none⟩ = some (.int .u16 c.ct)) ∧ (w'.cell? ⟨bj, 0, none⟩ = some (.int .u8 (jn a b).lv) ∧ w'.cell? ⟨bj, 1, none⟩ = some (.int .u16 (jn a b).ct)) ∧ (w'.cell? ⟨bm, 0, none⟩ = some (.int .u8 (mt a b).lv) ∧ w'.cell? ⟨bm, 1, none⟩ = some (.int .u16 (mt a b).ct)))) [⟨0, 128, 288230376151711744⟩, ⟨0, 32, 576460752303423488⟩, ⟨0, 256, 1152921504606846976⟩, ⟨7, 2017612633061982208, 2305843009213693952⟩, ⟨0, 128, 4611686018427387904⟩, ⟨0, 32, 9223372036854775808⟩, ⟨0, 8, 18446744073709551616⟩, ⟨120, 32281802128991715328, 36893488147419103232⟩, ⟨128, 36893488147419103232, 73786976294838206464⟩, ⟨256, 73786976294838206592, 147573952589676412928⟩, ⟨256, 73786976294838206496, 295147905179352825856⟩, ⟨256, 73786976294838206480, 590295810358705651712⟩, ⟨3840, 1106804644422573096960, 1180591620717411303424⟩, ⟨4352, 1254378597012249509888, 2361183241434822606848⟩, ⟨8200, 2363489084444036300800, 4722366482869645213696⟩, ⟨20480, 4722366482869645213696, 9444732965739290427392⟩, ⟨32768, 9444732965739290427520, 18889465931478580854784⟩, ⟨32768, 9444732965739290427904, 37778931862957161709568⟩, ⟨32768, 9444732965739290427424, 75557863725914323419136⟩, ⟨491520, 141670994486089356410880, 151115727451828646838272⟩, ⟨32768, 9444732965739290427520, 302231454903657293676544⟩, ⟨32768, 9444732965739290427400, 604462909807314587353088⟩, ⟨32768, 9444732965739290427424, 1208925819614629174706176⟩, ⟨7897088, 2125064917291340346163200, 2417851639229258349412352⟩, ⟨8421376, 2427296372194997639839744, 4835703278458516698824704⟩, ⟨16777216, 4835703278458516698824832, 9671406556917033397649408⟩, ⟨16777216, 4835703278458516698824720, 19342813113834066795298816⟩, ⟨16777216, 4835703278458516698824736, 38685626227668133590597632⟩, ⟨251658240, 72535549176877750482370560, 77371252455336267181195264⟩, ⟨285245440, 82216400466760523170447360, 154742504910672534362390528⟩, ⟨537427968, 154903065371090102299656192, 309485009821345068724781056⟩, ⟨1073774592, 309494454554310808015208448, 618970019642690137449562112⟩, ⟨2415919104, 618970019642690137449562112, 1237940039285380274899124224⟩, ⟨4294967296, 1237940039285380274899124232, 2475880078570760549798248448⟩, ⟨4294967296, 1237940039285380274899124736, 4951760157141521099596496896⟩, ⟨30064771072, 8665580274997661924293869568, 9903520314283042199192993792⟩, ⟨4294967296, 1237940039285380274899124232, 19807040628566084398385987584⟩, ⟨107374182400, 30948500982134506872478105600, 39614081257132168796771975168⟩, ⟨141733920768, 40852021296417549071671099392, 79228162514264337593543950336⟩, ⟨309237645312, 79228162514264337593543950336, 158456325028528675187087900672⟩, ⟨549755813888, 158456325028528675187087900680, 316912650057057350374175801344⟩, ⟨549755813888, 158456325028528675187087900928, 633825300114114700748351602688⟩, ⟨3848290697216, 1109194275199700726309615304704, 1267650600228229401496703205376⟩, ⟨549755813888, 158456325028528675187087900680, 2535301200456458802993406410752⟩, ⟨13743895347200, 3961408125713216879677197516800, 5070602400912917605986812821504⟩, ⟨18141941858304, 5229058725941446281173900722176, 10141204801825835211973625643008⟩, ⟨39582418599936, 10141204801825835211973625643008, 20282409603651670423947251286016⟩, ⟨70368744177664, 20282409603651670423947251286144, 40564819207303340847894502572032⟩, ⟨70368744177664, 20282409603651670423947251286024, 81129638414606681695789005144064⟩, ⟨70368744177664, 20282409603651670423947251286032, 162259276829213363391578010288128⟩, ⟨1055531162664960, 304236144054775056359208769290240, 324518553658426726783156020576256⟩, ⟨1196268651020288, 344800963262078397207103271862272, 649037107316853453566312041152512⟩, ⟨3448068464705536, 669319516920505123990259292438528, 1298074214633706907132624082305024⟩, ⟨4503599627370496, 1298074214633706907132624082305032, 2596148429267413814265248164610048⟩, ⟨4503599627370496, 1298074214633706907132624082305040, 5192296858534827628530496329220096⟩, ⟨31525197391593472, 9086519502435948349928368576135168, 10384593717069655257060992658440192⟩, ⟨40602765390512128, 11702950341307013834617563992031232, 20769187434139310514121985316880384⟩, ⟨76631562409476096, 20789469843742962184545932568166400, 41538374868278621028243970633760768⟩, ⟨144115188075855872, 41538374868278621028243970633760784, 83076749736557242056487941267521536⟩, ⟨144115188075855872, 41538374868278621028243970633760776, 166153499473114484112975882535043072⟩, ⟨1008806316530991104, 290768624077950347197707794436325376, 332306998946228968225951765070086144⟩, ⟨1297107061426880512, 373865656224111240924619682955132928, 664613997892457936451903530140172288⟩, ⟨2305913377957871616, 664634280302061588122327477391458304, 1329227995784915872903807060280344576⟩, ⟨9223372036854775807, 1329227995784915872903807060280344576, 64⟩] [(0, false), (1, false), (2, false), (4, false), (5, false), (6, false), (3, true), (7, true), (8, false), (9, false), (10, false), (11, false), (12, true), (13, false), (14, false), (15, false), (16, false), (17, false), (18, false), (20, false), (21, false), (22, false), (19, true), (23, true), (24, false), (25, false), (26, false), (27, false), (28, true), (29, false), (30, false), (31, false), (32, false), (33, false), (34, false), (36, false), (35, true), (37, false), (38, false), (39, false), (40, false), (41, false), (43, false), (42, true), (44, false), (45, false), (46, false), (47, false), (48, false), (49, false), (50, true), (51, false), (52, false), (53, false), (54, false), (55, false), (56, false), (57, false), (58, false), (59, false), (60, true), (61, false), (62, false), (63, false)] rfl (by kernel_rfl) (by kernel_rfl) (fun _ _ d _ _ h => by cases d <;> exact h) (HS.out _ hKc) ?_
      simp only [rowsOf, rowAt, gslot, List.map_cons, List.map_nil, List.getElem?_toArray, List.getElem?_cons_zero, List.getElem?_cons_succ, Option.bind_some]
      cases u
      all_goals
        repeat (first
          | (refine seq_take (v := ?_) (a' := ?_) (by rfl) ?_ ?_ ?_
             rotate_left 2
             · (intro w hSw; obtain ⟨-, hSw⟩ := hSw; go_split_ands; go_simp; with_reducible rfl)
             · (simp only [Act.put, List.setIfInBounds_toArray, List.set_cons_zero, List.set_cons_succ]; with_reducible rfl))
          | (refine seq_callv (f := 11) (args := ?_) (v := ?_) (a' := ?_) (by rfl) (by rfl) (by rfl) Try.call11 ?_ ?_ ?_ ?_
             rotate_left 3
             · (go_simp; with_reducible rfl)
             · ((first
                 | (with_reducible refine (dom_is c (jn a b) _ _ hc okab c8.out).mono ?_)
                 | (with_reducible refine (dom_is c a _ _ hc ha c6.out).mono ?_)
                 | (with_reducible refine (dom_is c b _ _ hc hb c7.out).mono ?_)
                 | (with_reducible refine (dom_is (mt a b) c _ _ omab hc c9.out).mono ?_)
                 | (with_reducible refine (dom_is a c _ _ ha hc c4.out).mono ?_)
                 | (with_reducible refine (dom_is b c _ _ hb hc c3.out).mono ?_)
                 | (with_reducible refine (dom_is a b _ _ ha hb c2.out).mono ?_))
                rintro e w' ⟨rfl, hk⟩
                refine ⟨?_, HS.out _ (hKc.trans hk)⟩
                with_reducible rfl)
             · (simp only [Act.put, List.setIfInBounds_toArray, List.set_cons_zero, List.set_cons_succ]; with_reducible rfl)
             clear hKc
             intro w2 hw2
             have hKc := hw2.1
             clear hw2)
          | (refine seq_callv (f := 13) (args := ?_) (v := ?_) (a' := ?_) (by rfl) (by rfl) (by rfl) Try.call13 ?_ ?_ ?_ ?_
             rotate_left 3
             · (go_simp; with_reducible rfl)
             · ((with_reducible refine (join_any a (mt a b) _ ha omab).mono ?_)
                rintro e w' ⟨rfl, hk⟩
                refine ⟨?_, HS.out _ (hKc.trans hk)⟩
                with_reducible rfl)
             · (simp only [Act.put, List.setIfInBounds_toArray, List.set_cons_zero, List.set_cons_succ]; with_reducible rfl)
             clear hKc
             intro w2 hw2
             have hKc := hw2.1
             clear hw2)
          | (refine seq_callv (f := 15) (args := ?_) (v := ?_) (a' := ?_) (by rfl) (by rfl) (by rfl) Try.call15 ?_ ?_ ?_ ?_
             rotate_left 3
             · (go_simp; with_reducible rfl)
             · ((with_reducible refine (meet_any a (jn a b) _ ha okab).mono ?_)
                rintro e w' ⟨rfl, hk⟩
                refine ⟨?_, HS.out _ (hKc.trans hk)⟩
                with_reducible rfl)
             · (simp only [Act.put, List.setIfInBounds_toArray, List.set_cons_zero, List.set_cons_succ]; with_reducible rfl)
             clear hKc
             intro w2 hw2
             have hKc := hw2.1
             clear hw2)
          | (refine seq_skip (a' := ?_) (HS.out _ hKc) (by rfl) ?_ ?_
             rotate_left
             · (simp only [Act.put, List.setIfInBounds_toArray, List.set_cons_zero, List.set_cons_succ]; with_reducible rfl)))
        refine seq_nil ?_
        go_wp2
        go_ret
        exact ⟨rfl, hK.trans hKc⟩
    · refine seq_region (S := fun w' => Keep wc w' ∧ ((w'.cell? ⟨w.heap.size, 0, none⟩ = some (.int .u8 a.lv) ∧ w'.cell? ⟨w.heap.size, 1, none⟩ = some (.int .u16 a.ct)) ∧ (w'.cell? ⟨w.heap.size + 1, 0, none⟩ = some (.int .u8 b.lv) ∧ w'.cell? ⟨w.heap.size + 1, 1, none⟩ = some (.int .u16 b.ct)) ∧ (w'.cell? ⟨w.heap.size + 1 + 1, 0, none⟩ = some (.int .u8 c.lv) ∧ w'.cell? ⟨w.heap.size + 1 + 1, 1, none⟩ = some (.int .u16 c.ct)) ∧ (w'.cell? ⟨bj, 0, none⟩ = some (.int .u8 (jn a b).lv) ∧ w'.cell? ⟨bj, 1, none⟩ = some (.int .u16 (jn a b).ct)) ∧ (w'.cell? ⟨bm, 0, none⟩ = some (.int .u8 (mt a b).lv) ∧ w'.cell? ⟨bm, 1, none⟩ = some (.int .u16 (mt a b).ct)))) [⟨0, 128, 288230376151711744⟩, ⟨0, 32, 576460752303423488⟩, ⟨0, 256, 1152921504606846976⟩, ⟨7, 2017612633061982208, 2305843009213693952⟩, ⟨0, 128, 4611686018427387904⟩, ⟨0, 32, 9223372036854775808⟩, ⟨0, 8, 18446744073709551616⟩, ⟨120, 32281802128991715328, 36893488147419103232⟩, ⟨128, 36893488147419103232, 73786976294838206464⟩, ⟨256, 73786976294838206592, 147573952589676412928⟩, ⟨256, 73786976294838206496, 295147905179352825856⟩, ⟨256, 73786976294838206480, 590295810358705651712⟩, ⟨3840, 1106804644422573096960, 1180591620717411303424⟩, ⟨4352, 1254378597012249509888, 2361183241434822606848⟩, ⟨8200, 2363489084444036300800, 4722366482869645213696⟩, ⟨20480, 4722366482869645213696, 9444732965739290427392⟩, ⟨32768, 9444732965739290427520, 18889465931478580854784⟩, ⟨32768, 9444732965739290427904, 37778931862957161709568⟩, ⟨32768, 9444732965739290427424, 75557863725914323419136⟩, ⟨491520, 141670994486089356410880, 151115727451828646838272⟩, ⟨32768, 9444732965739290427520, 302231454903657293676544⟩, ⟨32768, 9444732965739290427400, 604462909807314587353088⟩, ⟨32768, 9444732965739290427424, 1208925819614629174706176⟩, ⟨7897088, 2125064917291340346163200, 2417851639229258349412352⟩, ⟨8421376, 2427296372194997639839744, 4835703278458516698824704⟩, ⟨16777216, 4835703278458516698824832, 9671406556917033397649408⟩, ⟨16777216, 4835703278458516698824720, 19342813113834066795298816⟩, ⟨16777216, 4835703278458516698824736, 38685626227668133590597632⟩, ⟨251658240, 72535549176877750482370560, 77371252455336267181195264⟩, ⟨285245440, 82216400466760523170447360, 154742504910672534362390528⟩, ⟨537427968, 154903065371090102299656192, 309485009821345068724781056⟩, ⟨1073774592, 309494454554310808015208448, 618970019642690137449562112⟩, ⟨2415919104, 618970019642690137449562112, 1237940039285380274899124224⟩, ⟨4294967296, 1237940039285380274899124232, 2475880078570760549798248448⟩, ⟨4294967296, 1237940039285380274899124736, 4951760157141521099596496896⟩, ⟨30064771072, 8665580274997661924293869568, 9903520314283042199192993792⟩, ⟨4294967296, 1237940039285380274899124232, 19807040628566084398385987584⟩, ⟨107374182400, 30948500982134506872478105600, 39614081257132168796771975168⟩, ⟨141733920768, 40852021296417549071671099392, 79228162514264337593543950336⟩, ⟨309237645312, 79228162514264337593543950336, 158456325028528675187087900672⟩, ⟨549755813888, 158456325028528675187087900680, 316912650057057350374175801344⟩, ⟨549755813888, 158456325028528675187087900928, 633825300114114700748351602688⟩, ⟨3848290697216, 1109194275199700726309615304704, 1267650600228229401496703205376⟩, ⟨549755813888, 158456325028528675187087900680, 2535301200456458802993406410752⟩, ⟨13743895347200, 3961408125713216879677197516800, 5070602400912917605986812821504⟩, ⟨18141941858304, 5229058725941446281173900722176, 10141204801825835211973625643008⟩, ⟨39582418599936, 10141204801825835211973625643008, 20282409603651670423947251286016⟩, ⟨70368744177664, 20282409603651670423947251286144, 40564819207303340847894502572032⟩, ⟨70368744177664, 20282409603651670423947251286024, 81129638414606681695789005144064⟩, ⟨70368744177664, 20282409603651670423947251286032, 162259276829213363391578010288128⟩, ⟨1055531162664960, 304236144054775056359208769290240, 324518553658426726783156020576256⟩, ⟨1196268651020288, 344800963262078397207103271862272, 649037107316853453566312041152512⟩, ⟨3448068464705536, 669319516920505123990259292438528, 1298074214633706907132624082305024⟩, ⟨4503599627370496, 1298074214633706907132624082305032, 2596148429267413814265248164610048⟩, ⟨4503599627370496, 1298074214633706907132624082305040, 5192296858534827628530496329220096⟩, ⟨31525197391593472, 9086519502435948349928368576135168, 10384593717069655257060992658440192⟩, ⟨40602765390512128, 11702950341307013834617563992031232, 20769187434139310514121985316880384⟩, ⟨76631562409476096, 20789469843742962184545932568166400, 41538374868278621028243970633760768⟩, ⟨144115188075855872, 41538374868278621028243970633760784, 83076749736557242056487941267521536⟩, ⟨144115188075855872, 41538374868278621028243970633760776, 166153499473114484112975882535043072⟩, ⟨1008806316530991104, 290768624077950347197707794436325376, 332306998946228968225951765070086144⟩, ⟨1297107061426880512, 373865656224111240924619682955132928, 664613997892457936451903530140172288⟩, ⟨2305913377957871616, 664634280302061588122327477391458304, 1329227995784915872903807060280344576⟩, ⟨9223372036854775807, 1329227995784915872903807060280344576, 64⟩] [(0, false), (1, false), (2, false), (4, false), (5, false), (6, false), (3, true), (7, true), (8, false), (9, false), (10, false), (11, false), (12, true), (13, false), (14, false), (15, false), (16, false), (17, false), (18, false), (20, false), (21, false), (22, false), (19, true), (23, true), (24, false), (25, false), (26, false), (27, false), (28, true), (29, false), (30, false), (31, false), (32, false), (33, false), (34, false), (36, false), (35, true), (37, false), (38, false), (39, false), (40, false), (41, false), (43, false), (42, true), (44, false), (45, false), (46, false), (47, false), (48, false), (49, false), (50, true), (51, false), (52, false), (53, false), (54, false), (55, false), (56, false), (57, false), (58, false), (59, false), (60, true), (61, false), (62, false), (63, false)] rfl (by kernel_rfl) (by kernel_rfl) (fun _ _ d _ _ h => by cases d <;> exact h) (HS.out _ hKc) ?_
      simp only [rowsOf, rowAt, gslot, List.map_cons, List.map_nil, List.getElem?_toArray, List.getElem?_cons_zero, List.getElem?_cons_succ, Option.bind_some]
      have HL2 : Hid (decide (nm b < nm a) = true) := by first | exact Lib.hid (HL.out rfl rfl) | exact Lib.hid (HL.out trivial trivial) | exact Lib.hid (HL.out trivial rfl)
      cases u <;> cases s
      all_goals
        repeat (first
          | (refine seq_take (v := ?_) (a' := ?_) (by rfl) ?_ ?_ ?_
             rotate_left 2
             · (intro w hSw; obtain ⟨-, hSw⟩ := hSw; go_split_ands; go_simp; with_reducible rfl)
             · (simp only [Act.put, List.setIfInBounds_toArray, List.set_cons_zero, List.set_cons_succ]; with_reducible rfl))
          | (refine seq_callv (f := 11) (args := ?_) (v := ?_) (a' := ?_) (by rfl) (by rfl) (by rfl) Try.call11 ?_ ?_ ?_ ?_
             rotate_left 3
             · (go_simp; with_reducible rfl)
             · ((first
                 | (with_reducible refine (dom_is c (jn a b) _ _ hc okab c8.out).mono ?_)
                 | (with_reducible refine (dom_is c a _ _ hc ha c6.out).mono ?_)
                 | (with_reducible refine (dom_is c b _ _ hc hb c7.out).mono ?_)
                 | (with_reducible refine (dom_is (mt a b) c _ _ omab hc c9.out).mono ?_)
                 | (with_reducible refine (dom_is a c _ _ ha hc c4.out).mono ?_)
                 | (with_reducible refine (dom_is b c _ _ hb hc c3.out).mono ?_)
                 | (with_reducible refine (dom_is a b _ _ ha hb c2.out).mono ?_))
                rintro e w' ⟨rfl, hk⟩
                refine ⟨?_, HS.out _ (hKc.trans hk)⟩
                with_reducible rfl)
             · (simp only [Act.put, List.setIfInBounds_toArray, List.set_cons_zero, List.set_cons_succ]; with_reducible rfl)
             clear hKc
             intro w2 hw2
             have hKc := hw2.1
             clear hw2)
          | (refine seq_callv (f := 13) (args := ?_) (v := ?_) (a' := ?_) (by rfl) (by rfl) (by rfl) Try.call13 ?_ ?_ ?_ ?_
             rotate_left 3
             · (go_simp; with_reducible rfl)
             · ((with_reducible refine (join_any a (mt a b) _ ha omab).mono ?_)
                rintro e w' ⟨rfl, hk⟩
                refine ⟨?_, HS.out _ (hKc.trans hk)⟩
                with_reducible rfl)
             · (simp only [Act.put, List.setIfInBounds_toArray, List.set_cons_zero, List.set_cons_succ]; with_reducible rfl)
             clear hKc
             intro w2 hw2
             have hKc := hw2.1
             clear hw2)
          | (refine seq_callv (f := 15) (args := ?_) (v := ?_) (a' := ?_) (by rfl) (by rfl) (by rfl) Try.call15 ?_ ?_ ?_ ?_
             rotate_left 3
             · (go_simp; with_reducible rfl)
             · ((with_reducible refine (meet_any a (jn a b) _ ha okab).mono ?_)
                rintro e w' ⟨rfl, hk⟩
                refine ⟨?_, HS.out _ (hKc.trans hk)⟩
                with_reducible rfl)
             · (simp only [Act.put, List.setIfInBounds_toArray, List.set_cons_zero, List.set_cons_succ]; with_reducible rfl)
             clear hKc
             intro w2 hw2
             have hKc := hw2.1
             clear hw2)
          | (refine seq_callv (f := 20) (args := ?_) (v := ?_) (a' := ?_) (by rfl) (by rfl) (by rfl) Try.call20 ?_ ?_ ?_ ?_
             rotate_left 3
             · (go_simp; with_reducible rfl)
             · ((with_reducible refine (less_is b a true _ hb ha HL2.out).mono ?_)
                rintro e w' ⟨rfl, hk⟩
                refine ⟨?_, HS.out _ (hKc.trans hk)⟩
                with_reducible rfl)
             · (simp only [Act.put, List.setIfInBounds_toArray, List.set_cons_zero, List.set_cons_succ]; with_reducible rfl)
             clear hKc
             intro w2 hw2
             have hKc := hw2.1
             clear hw2)
          | (refine seq_skip (a' := ?_) (HS.out _ hKc) (by rfl) ?_ ?_
             rotate_left
             · (simp only [Act.put, List.setIfInBounds_toArray, List.set_cons_zero, List.set_cons_succ]; with_reducible rfl)))
        refine seq_nil ?_
        go_wp2
        go_ret
        exact ⟨rfl, hK.trans hKc⟩
    · refine seq_region (S := fun w' => Keep wc w' ∧ ((w'.cell? ⟨w.heap.size, 0, none⟩ = some (.int .u8 a.lv) ∧ w'.cell? ⟨w.heap.size, 1, none⟩ = some (.int .u16 a.ct)) ∧ (w'.cell? ⟨w.heap.size + 1, 0, none⟩ = some (.int .u8 b.lv) ∧ w'.cell? ⟨w.heap.size + 1, 1, none⟩ = some (.int .u16 b.ct)) ∧ (w'.cell? ⟨w.heap.size + 1 + 1, 0, none⟩ = some (.int .u8 c.lv) ∧ w'.cell? ⟨w.heap.size + 1 + 1, 1, none⟩ = some (.int .u16 c.ct)) ∧ (w'.cell? ⟨bj, 0, none⟩ = some (.int .u8 (jn a b).lv) ∧ w'.cell? ⟨bj, 1, none⟩ = some (.int .u16 (jn a b).ct)) ∧ (w'.cell? ⟨bm, 0, none⟩ = some (.int .u8 (mt a b).lv) ∧ w'.cell? ⟨bm, 1, none⟩ = some (.int .u16 (mt a b).ct)))) [⟨0, 128, 288230376151711744⟩, ⟨0, 32, 576460752303423488⟩, ⟨0, 256, 1152921504606846976⟩, ⟨7, 2017612633061982208, 2305843009213693952⟩, ⟨0, 128, 4611686018427387904⟩, ⟨0, 32, 9223372036854775808⟩, ⟨0, 8, 18446744073709551616⟩, ⟨120, 32281802128991715328, 36893488147419103232⟩, ⟨128, 36893488147419103232, 73786976294838206464⟩, ⟨256, 73786976294838206592, 147573952589676412928⟩, ⟨256, 73786976294838206496, 295147905179352825856⟩, ⟨256, 73786976294838206480, 590295810358705651712⟩, ⟨3840, 1106804644422573096960, 1180591620717411303424⟩, ⟨4352, 1254378597012249509888, 2361183241434822606848⟩, ⟨8200, 2363489084444036300800, 4722366482869645213696⟩, ⟨20480, 4722366482869645213696, 9444732965739290427392⟩, ⟨32768, 9444732965739290427520, 18889465931478580854784⟩, ⟨32768, 9444732965739290427904, 37778931862957161709568⟩, ⟨32768, 9444732965739290427424, 75557863725914323419136⟩, ⟨491520, 141670994486089356410880, 151115727451828646838272⟩, ⟨32768, 9444732965739290427520, 302231454903657293676544⟩, ⟨32768, 9444732965739290427400, 604462909807314587353088⟩, ⟨32768, 9444732965739290427424, 1208925819614629174706176⟩, ⟨7897088, 2125064917291340346163200, 2417851639229258349412352⟩, ⟨8421376, 2427296372194997639839744, 4835703278458516698824704⟩, ⟨16777216, 4835703278458516698824832, 9671406556917033397649408⟩, ⟨16777216, 4835703278458516698824720, 19342813113834066795298816⟩, ⟨16777216, 4835703278458516698824736, 38685626227668133590597632⟩, ⟨251658240, 72535549176877750482370560, 77371252455336267181195264⟩, ⟨285245440, 82216400466760523170447360, 154742504910672534362390528⟩, ⟨537427968, 154903065371090102299656192, 309485009821345068724781056⟩, ⟨1073774592, 309494454554310808015208448, 618970019642690137449562112⟩, ⟨2415919104, 618970019642690137449562112, 1237940039285380274899124224⟩, ⟨4294967296, 1237940039285380274899124232, 2475880078570760549798248448⟩, ⟨4294967296, 1237940039285380274899124736, 4951760157141521099596496896⟩, ⟨30064771072, 8665580274997661924293869568, 9903520314283042199192993792⟩, ⟨4294967296, 1237940039285380274899124232, 19807040628566084398385987584⟩, ⟨107374182400, 30948500982134506872478105600, 39614081257132168796771975168⟩, ⟨141733920768, 40852021296417549071671099392, 79228162514264337593543950336⟩, ⟨309237645312, 79228162514264337593543950336, 158456325028528675187087900672⟩, ⟨549755813888, 158456325028528675187087900680, 316912650057057350374175801344⟩, ⟨549755813888, 158456325028528675187087900928, 633825300114114700748351602688⟩, ⟨3848290697216, 1109194275199700726309615304704, 1267650600228229401496703205376⟩, ⟨549755813888, 158456325028528675187087900680, 2535301200456458802993406410752⟩, ⟨13743895347200, 3961408125713216879677197516800, 5070602400912917605986812821504⟩, ⟨18141941858304, 5229058725941446281173900722176, 10141204801825835211973625643008⟩, ⟨39582418599936, 10141204801825835211973625643008, 20282409603651670423947251286016⟩, ⟨70368744177664, 20282409603651670423947251286144, 40564819207303340847894502572032⟩, ⟨70368744177664, 20282409603651670423947251286024, 81129638414606681695789005144064⟩, ⟨70368744177664, 20282409603651670423947251286032, 162259276829213363391578010288128⟩, ⟨1055531162664960, 304236144054775056359208769290240, 324518553658426726783156020576256⟩, ⟨1196268651020288, 344800963262078397207103271862272, 649037107316853453566312041152512⟩, ⟨3448068464705536, 669319516920505123990259292438528, 1298074214633706907132624082305024⟩, ⟨4503599627370496, 1298074214633706907132624082305032, 2596148429267413814265248164610048⟩, ⟨4503599627370496, 1298074214633706907132624082305040, 5192296858534827628530496329220096⟩, ⟨31525197391593472, 9086519502435948349928368576135168, 10384593717069655257060992658440192⟩, ⟨40602765390512128, 11702950341307013834617563992031232, 20769187434139310514121985316880384⟩, ⟨76631562409476096, 20789469843742962184545932568166400, 41538374868278621028243970633760768⟩, ⟨144115188075855872, 41538374868278621028243970633760784, 83076749736557242056487941267521536⟩, ⟨144115188075855872, 41538374868278621028243970633760776, 166153499473114484112975882535043072⟩, ⟨1008806316530991104, 290768624077950347197707794436325376, 332306998946228968225951765070086144⟩, ⟨1297107061426880512, 373865656224111240924619682955132928, 664613997892457936451903530140172288⟩, ⟨2305913377957871616, 664634280302061588122327477391458304, 1329227995784915872903807060280344576⟩, ⟨9223372036854775807, 1329227995784915872903807060280344576, 64⟩] [(0, false), (1, false), (2, false), (4, false), (5, false), (6, false), (3, true), (7, true), (8, false), (9, false), (10, false), (11, false), (12, true), (13, false), (14, false), (15, false), (16, false), (17, false), (18, false), (20, false), (21, false), (22, false), (19, true), (23, true), (24, false), (25, false), (26, false), (27, false), (28, true), (29, false), (30, false), (31, false), (32, false), (33, false), (34, false), (36, false), (35, true), (37, false), (38, false), (39, false), (40, false), (41, false), (43, false), (42, true), (44, false), (45, false), (46, false), (47, false), (48, false), (49, false), (50, true), (51, false), (52, false), (53, false), (54, false), (55, false), (56, false), (57, false), (58, false), (59, false), (60, true), (61, false), (62, false), (63, false)] rfl (by kernel_rfl) (by kernel_rfl) (fun _ _ d _ _ h => by cases d <;> exact h) (HS.out _ hKc) ?_
      simp only [rowsOf, rowAt, gslot, List.map_cons, List.map_nil, List.getElem?_toArray, List.getElem?_cons_zero, List.getElem?_cons_succ, Option.bind_some]
      cases u <;> cases z
      all_goals (try have HL2 : Hid (decide (nm b < nm a) = true) := by first | exact Lib.hid (HL.out rfl rfl) | exact Lib.hid (HL.out trivial trivial) | exact Lib.hid (HL.out trivial rfl))
      all_goals
        repeat (first
          | (refine seq_take (v := ?_) (a' := ?_) (by rfl) ?_ ?_ ?_
             rotate_left 2
             · (intro w hSw; obtain ⟨-, hSw⟩ := hSw; go_split_ands; go_simp; with_reducible rfl)
             · (simp only [Act.put, List.setIfInBounds_toArray, List.set_cons_zero, List.set_cons_succ]; with_reducible rfl))
          | (refine seq_callv (f := 11) (args := ?_) (v := ?_) (a' := ?_) (by rfl) (by rfl) (by rfl) Try.call11 ?_ ?_ ?_ ?_
             rotate_left 3
             · (go_simp; with_reducible rfl)
             · ((first
                 | (with_reducible refine (dom_is c (jn a b) _ _ hc okab c8.out).mono ?_)
                 | (with_reducible refine (dom_is c a _ _ hc ha c6.out).mono ?_)
                 | (with_reducible refine (dom_is c b _ _ hc hb c7.out).mono ?_)
                 | (with_reducible refine (dom_is (mt a b) c _ _ omab hc c9.out).mono ?_)
                 | (with_reducible refine (dom_is a c _ _ ha hc c4.out).mono ?_)
                 | (with_reducible refine (dom_is b c _ _ hb hc c3.out).mono ?_)
                 | (with_reducible refine (dom_is a b _ _ ha hb c2.out).mono ?_))
                rintro e w' ⟨rfl, hk⟩
                refine ⟨?_, HS.out _ (hKc.trans hk)⟩
                with_reducible rfl)
             · (simp only [Act.put, List.setIfInBounds_toArray, List.set_cons_zero, List.set_cons_succ]; with_reducible rfl)
             clear hKc
             intro w2 hw2
             have hKc := hw2.1
             clear hw2)
          | (refine seq_callv (f := 13) (args := ?_) (v := ?_) (a' := ?_) (by rfl) (by rfl) (by rfl) Try.call13 ?_ ?_ ?_ ?_
             rotate_left 3
             · (go_simp; with_reducible rfl)
             · ((with_reducible refine (join_any a (mt a b) _ ha omab).mono ?_)
                rintro e w' ⟨rfl, hk⟩
                refine ⟨?_, HS.out _ (hKc.trans hk)⟩
                with_reducible rfl)
             · (simp only [Act.put, List.setIfInBounds_toArray, List.set_cons_zero, List.set_cons_succ]; with_reducible rfl)
             clear hKc
             intro w2 hw2
             have hKc := hw2.1
             clear hw2)
          | (refine seq_callv (f := 15) (args := ?_) (v := ?_) (a' := ?_) (by rfl) (by rfl) (by rfl) Try.call15 ?_ ?_ ?_ ?_
             rotate_left 3
             · (go_simp; with_reducible rfl)
             · ((with_reducible refine (meet_any a (jn a b) _ ha okab).mono ?_)
                rintro e w' ⟨rfl, hk⟩
                refine ⟨?_, HS.out _ (hKc.trans hk)⟩
                with_reducible rfl)
             · (simp only [Act.put, List.setIfInBounds_toArray, List.set_cons_zero, List.set_cons_succ]; with_reducible rfl)
             clear hKc
             intro w2 hw2
             have hKc := hw2.1
             clear hw2)
          | (refine seq_callv (f := 20) (args := ?_) (v := ?_) (a' := ?_) (by rfl) (by rfl) (by rfl) Try.call20 ?_ ?_ ?_ ?_
             rotate_left 3
             · (go_simp; with_reducible rfl)
             · ((with_reducible refine (less_is b a true _ hb ha HL2.out).mono ?_)
                rintro e w' ⟨rfl, hk⟩
                refine ⟨?_, HS.out _ (hKc.trans hk)⟩
                with_reducible rfl)
             · (simp only [Act.put, List.setIfInBounds_toArray, List.set_cons_zero, List.set_cons_succ]; with_reducible rfl)
             clear hKc
             intro w2 hw2
             have hKc := hw2.1
             clear hw2)
          | (refine seq_skip (a' := ?_) (HS.out _ hKc) (by rfl) ?_ ?_
             rotate_left
             · (simp only [Act.put, List.setIfInBounds_toArray, List.set_cons_zero, List.set_cons_succ]; with_reducible rfl)))
        refine seq_nil ?_
        go_wp2
        go_ret
        exact ⟨rfl, hK.trans hKc⟩

theorem LabelLattice_std (z0 z1 z2 : Lb) (w : World) (h0 : z0.ok) (h1 : z1.ok) (h2 : z2.ok) :
    Calls Try.prog 4 #[.agg #[.int .u8 z0.lv, .int .u16 z0.ct], .agg #[.int .u8 z1.lv, .int .u16 z1.ct], .agg #[.int .u8 z2.lv, .int .u16 z2.ct]] w fun e w' => e = .returned (.bool true) ∧ Below w.heap.size w w' :=
  lattice_core z0 z1 z2 _ _ _ _ _ _ w h0 h1 h2 rfl rfl rfl rfl rfl rfl
end Go.Proofs.Ytjhakgnjodocpab
