/- The document's own Cuts of layer 6. -/
import Derived.Test.YtmdhbbibghpijaaDoorIvlGrow
namespace Go.Proofs.YtmdhbbibghpijaaDoor
open Go.RowKit

theorem CutOf.append {xs ys : List Sp} {ns : List Int} (h : CutOf xs ns) (h2 : CutOf ys ns) : CutOf (xs ++ ys) ns := fun s hs he => by
  rcases List.mem_append.1 hs with g | g
  · exact h s g he
  · exact h2 s g he
/-- Lists of spans, one behind the other, in a row that is only read. -/
def Lss (w : World) (a : Option Addr) (zss : List (List Sp)) : Prop :=
  ∀ (i : Nat) (zs : List Sp), zss[i]? = some zs → ∃ b off Ai ci, a = some ⟨b, off, none⟩ ∧ b < w.heap.size ∧ w.cell? ⟨b, off + i, none⟩ = some (.slice Ai zs.length ci) ∧ Arg w Ai zs.length ci zs
/-- The cuts of the spans that came. -/
def CutI (W : World) (A : Option Addr) (n c : Nat) (pre : List Sp) : Prop :=
  ∃ ns, Nums W A n c ns ∧ Up ns ∧ 0 < n ∧ (∀ z ∈ ns, 0 ≤ z ∧ z ≤ 4294967296) ∧ (0 ∈ ns ∧ 4294967296 ∈ ns) ∧ CutOf pre ns ∧ n ≤ 2 + 2 * pre.length
theorem CutI.keep {W W' : World} {A : Option Addr} {n c : Nat} {pre : List Sp} (h : CutI W A n c pre) (hk : Keep W W') : CutI W' A n c pre := by
  obtain ⟨ns, h1, h2⟩ := h
  exact ⟨ns, h1.keep hk, h2⟩
theorem CutI.skip {W : World} {A : Option Addr} {n c : Nat} {pre : List Sp} {s : Sp} (h : CutI W A n c pre) (hs : ¬ s.lo ≤ s.hi) : CutI W A n c (pre ++ [s]) := by
  obtain ⟨ns, h1, h2, h3, h4, h5, h6, h7⟩ := h
  refine ⟨ns, h1, h2, h3, h4, h5, h6.append (fun t ht he => ?_), by simp; omega⟩
  simp at ht
  subst ht
  exact absurd he hs
theorem CutI.two {W : World} {A : Option Addr} {n c : Nat} {pre : List Sp} {s : Sp} {ns ms ks : List Int} (h4 : ∀ z ∈ ns, 0 ≤ z ∧ z ≤ 4294967296) (h5 : 0 ∈ ns ∧ 4294967296 ∈ ns) (h6 : CutOf pre ns) (hl : ns.length ≤ 2 + 2 * pre.length)
    (p1 : Put ns s.lo ms) (p2 : Put ms (s.hi + 1) ks) (hn : Nums W A n c ks) (hs : s.ok) : CutI W A n c (pre ++ [s]) := by
  obtain ⟨⟨o1, o2⟩, o3, o4⟩ := hs
  have hsub : ∀ z ∈ ns, z ∈ ks := fun z hz => (p2.mem z).2 (.inl ((p1.mem z).2 (.inl hz)))
  have hlen := hn.len
  have hpos : 0 < ks.length := List.length_pos_of_mem (hsub 0 h5.1)
  have l1 := p1.len
  have l2 := p2.len
  refine ⟨ks, hn, p2.up, by omega, fun z hz => ?_, ⟨hsub _ h5.1, hsub _ h5.2⟩, (h6.mono hsub).append (fun t ht he => ?_), by simp; omega⟩
  · rcases (p2.mem z).1 hz with g | rfl
    · rcases (p1.mem z).1 g with g | rfl
      · exact h4 z g
      · omega
    · omega
  · simp at ht
    subst ht
    exact ⟨(p2.mem _).2 (.inl ((p1.mem _).2 (.inr rfl))), (p2.mem _).2 (.inr rfl)⟩
theorem cut_start (w : World) : CutI (w.alloc (.cells #[.int .i64 0, .int .i64 4294967296] 2)) (some ⟨w.heap.size, 0, none⟩) 2 2 [] := by
  refine ⟨[0, 4294967296], ⟨⟨rfl, fun _ => ⟨w.heap.size, 0, rfl, by simp, fun j hj => ?_⟩⟩, Nat.le_refl _, (fun h => by cases h)⟩, by simp [Up], by decide, by simp, by simp, (fun s hs => by cases hs), by decide⟩
  have hb := World.alloc_heap_new w (.cells #[.int .i64 0, .int .i64 4294967296] 2)
  generalize w.alloc (.cells #[.int .i64 0, .int .i64 4294967296] 2) = V at *
  rcases (show j = 0 ∨ j = 1 by omega) with rfl | rfl
  · simp [World.cell?, hb, vals]
  · simp [World.cell?, hb, vals]
theorem flat_snoc {zss : List (List Sp)} {i : Nat} {zs : List Sp} (h : zss[i]? = some zs) : (zss.take (i + 1)).flatten = (zss.take i).flatten ++ zs := by
  rw [List.take_add_one, h]
  simp
/-- What Cuts answers. -/
def CutsPost (w : World) (zs : List Sp) (e : Ending) (w' : World) : Prop := ∃ A n c, e = .returned (.slice A n c) ∧ CutI w' A n c zs ∧ Keep w w'

set_option maxRecDepth 100000 in
set_option maxHeartbeats 4000000 in
theorem cuts_any {w : World} {a : Option Addr} {n c : Nat} {zss : List (List Sp)} (h : Lss w a zss) (hl : zss.length = n) (hn : n ≤ 1000) (hM : zss.flatten.length ≤ 100000) :
    Calls Tryd.prog 56 #[.slice a n c] w (CutsPost w zss.flatten) := by
  have H := Lib.hid h
  have HL := Lib.hid hl
  have HM := Lib.hid hM
  have h0 := cut_start w
  have hk0 := (Keep.refl w).alloc (.cells #[.int .i64 0, .int .i64 4294967296] 2)
  have H0 := Lib.hid h0
  have HK0 := Lib.hid hk0
  clear h hl hM h0 hk0
  go_enter Tryd.func56, Tryd.ntmps56
  go_wp2_with fail
  generalize w.alloc (.cells #[.int .i64 0, .int .i64 4294967296] 2) = W0 at *
  go_loopw [3, 4] (fun cv i wr => ∃ (j : Nat) (A' : Option Addr) (n' c' : Nat), i = .int .i64 j ∧ cv = .slice A' n' c' ∧ j ≤ n ∧ Hid (CutI wr A' n' c' (zss.take j).flatten) ∧ Hid (Keep w wr)) (fun _ i _ => n - (intOf i).toNat)
  case atStart => exact ⟨0, _, _, _, rfl, rfl, Nat.zero_le _, H0, HK0⟩
  case round =>
    obtain ⟨j, A1, n1, c1, rfl, rfl, hj, HI, HK⟩ := hrel
    clear H0 HK0
    by_cases hlt : j < n
    · obtain ⟨zs, hz⟩ : ∃ zs, zss[j]? = some zs := ⟨_, List.getElem?_eq_getElem (by rw [HL.out]; exact hlt)⟩
      obtain ⟨b, off, Ai, ci, e, hb, hc, hg⟩ := H.out j zs hz
      subst e
      have hjm : (j : Int) < (n : Int) := by omega
      have HZ := Lib.hid hz
      have HG := Lib.hid hg
      have HC := Lib.hid (fun X (hX : Keep w X) => (hX.cell (p := ⟨b, off + j, none⟩) hb).trans hc)
      obtain ⟨m, hm⟩ : ∃ m, m = zs.length := ⟨_, rfl⟩
      have hmm : m ≤ 100000 := by
        have h1 : (zss.take (j + 1)).flatten.length ≤ zss.flatten.length := by
          conv => rhs; rw [← List.take_append_drop (j + 1) zss, List.flatten_append, List.length_append]
          omega
        rw [flat_snoc hz, List.length_append] at h1
        have := HM.out
        omega
      rw [← hm] at HC HG hc
      have HMM := Lib.hid hm
      clear hz hg hb hc hm
      go_wp2_with fail
      go_loopw [3, 5] (fun cv i wr => ∃ (q : Nat) (A' : Option Addr) (n' c' : Nat), i = .int .i64 q ∧ cv = .slice A' n' c' ∧ q ≤ m ∧ Hid (CutI wr A' n' c' ((zss.take j).flatten ++ zs.take q)) ∧ Hid (Keep w wr)) (fun _ i _ => m - (intOf i).toNat)
      case atStart => exact ⟨0, _, _, _, rfl, rfl, Nat.zero_le _, (by rw [List.take_zero, List.append_nil]; exact HI), HK⟩
      case round =>
        obtain ⟨q, A2, n2, c2, rfl, rfl, hq, HJ, HK2⟩ := hrel
        clear HI HK
        have c0 := HC.out wr HK2.out
        by_cases hqm : q < m
        · have hqi : (q : Int) < (m : Int) := by omega
          obtain ⟨s, hs⟩ : ∃ s, zs[q]? = some s := ⟨_, List.getElem?_eq_getElem (by rw [← HMM.out]; exact hqm)⟩
          obtain ⟨bi, oi, e, hbi, d0, d1⟩ := SpS.cells HG.out.prs q s hs
          subst e
          have hok := HG.out.ok s (List.mem_of_getElem? hs)
          have HD := Lib.hid (show ∀ X, Keep w X → X.cell? ⟨bi, oi + q * 2, none⟩ = some (.int .u32 s.lo) ∧ X.cell? ⟨bi, oi + q * 2 + 1, none⟩ = some (.int .u32 s.hi) from fun X hX => ⟨(hX.cell (p := ⟨bi, oi + q * 2, none⟩) hbi).trans d0, (hX.cell (p := ⟨bi, oi + q * 2 + 1, none⟩) hbi).trans d1⟩)
          have HTK := Lib.hid (show (zss.take j).flatten ++ zs.take (q + 1) = (zss.take j).flatten ++ zs.take q ++ [s] by rw [List.take_add_one, hs, List.append_assoc]; rfl)
          have HOK := Lib.hid hok
          obtain ⟨⟨o1, o2⟩, o3, o4⟩ := hok
          clear hs d0 d1 hbi
          obtain ⟨d0, d1⟩ := HD.out wr HK2.out
          by_cases hse : s.lo ≤ s.hi
          · obtain ⟨ns, hns, h2, h3, h4, h5, h6, h7⟩ := HJ.out
            have hbd : n2 ≤ 500000 := by
              have h1 : ((zss.take j).flatten ++ zs.take q).length ≤ zss.flatten.length := by
                have e1 := flat_snoc HZ.out
                have h2 : (zss.take (j + 1)).flatten.length ≤ zss.flatten.length := by
                  conv => rhs; rw [← List.take_append_drop (j + 1) zss, List.flatten_append, List.length_append]
                  omega
                rw [e1, List.length_append] at h2
                rw [List.length_append, List.length_take]
                omega
              have := HM.out
              omega
            have HN := Lib.hid hns
            have HNS := Lib.hid (And.intro h2 (And.intro h4 (And.intro h5 (And.intro h6 (show ns.length ≤ _ by rw [hns.len]; exact h7)))))
            have HN0 := Lib.hid h3
            clear hns h2 h3 h4 h5 h6 h7 HJ
            go_wp2_with fail
            go_quiet (fail)
            have HKV := Lib.hid (HK2.out.trans ((Keep.refl wr).drewN nq))
            have HNV := Lib.hid (HN.out.keep ((Keep.refl wr).drewN nq))
            have HLN := Lib.hid HN.out.len
            clear HK2 HN c0 d0 d1
            generalize wr.drewN nq = V at *
            have c0 := HC.out V HKV.out
            obtain ⟨d0, d1⟩ := HD.out V HKV.out
            go_wp2_with fail
            go_at_call 72
            refine (put_any _ _ _ ns s.lo V HNV.out HNS.out.1 (by omega) HN0.out).mono ?_
            rintro e w1 ⟨A3, n3, c3, ms, rfl, hn3, hp3, hk3⟩
            have HN3 := Lib.hid hn3
            have HP3 := Lib.hid hp3
            have HK3 := Lib.hid (HKV.out.trans hk3)
            clear c0 d0 d1
            have c0 := HC.out w1 HK3.out
            obtain ⟨d0, d1⟩ := HD.out w1 HK3.out
            clear hn3 hp3 hk3
            go_wp2_with fail
            go_at_call 72
            refine (put_any _ _ _ ms (s.hi + 1) w1 HN3.out HP3.out.up (by have h1 := HP3.out.len; have h2 := HN3.out.len; have h3 := HLN.out; omega) (by have h1 := List.length_pos_of_mem ((HP3.out.mem _).2 (.inr rfl)); have h2 := HN3.out.len; omega)).mono ?_
            rintro e w2 ⟨A4, n4, c4, ks, rfl, hn4, hp4, hk4⟩
            have HJ := Lib.hid (show CutI w2 A4 n4 c4 ((zss.take j).flatten ++ zs.take (q + 1)) by
              obtain ⟨h2, h4, h5, h6, h7⟩ := HNS.out
              rw [HTK.out]
              exact CutI.two h4 h5 h6 h7 HP3.out hp4 hn4 HOK.out)
            have HK4 := Lib.hid (HK3.out.trans hk4)
            clear hn4 hp4 hk4
            go_wp2_with fail
            go_roundw
            case rel => exact ⟨q + 1, _, _, _, by go_num, rfl, hqm, HJ, HK4⟩
            case measure => simp [intOf]; omega
          · have hse2 : ¬ s.lo ≤ s.hi := hse
            have HJ2 := Lib.hid (show CutI wr A2 n2 c2 ((zss.take j).flatten ++ zs.take (q + 1)) by rw [HTK.out]; exact HJ.out.skip hse)
            clear HJ
            go_wp2_with fail
            go_quiet (fail)
            have HKV := Lib.hid (HK2.out.trans ((Keep.refl wr).drewN nq))
            have HJV := Lib.hid (HJ2.out.keep ((Keep.refl wr).drewN nq))
            clear HK2 HJ2 c0 d0 d1
            generalize wr.drewN nq = V at *
            go_wp2_with fail
            go_roundw
            case rel => exact ⟨q + 1, _, _, _, by go_num, rfl, hqm, HJV, HKV⟩
            case measure => simp [intOf]; omega
        · obtain rfl : q = m := by omega
          clear hqm
          have HJ2 := Lib.hid (show CutI wr A2 n2 c2 (zss.take (j + 1)).flatten by
            rw [flat_snoc HZ.out]
            have := HJ.out
            have e : zs.take q = zs := List.take_of_length_le (by rw [← HMM.out]; exact Nat.le_refl _)
            rwa [e] at this)
          clear HJ
          go_wp2_with fail
          go_roundw
          case rel => exact ⟨j + 1, _, _, _, by go_num, rfl, hlt, HJ2, HK2⟩
          case measure => simp [intOf]; omega
    · obtain rfl : j = n := by omega
      have HE := Lib.hid (show CutI _ A1 n1 c1 zss.flatten by have := HI.out; rwa [List.take_of_length_le (by rw [HL.out]; exact Nat.le_refl _)] at this)
      clear hlt HI
      go_wp2_with fail
      go_ret
      exact ⟨_, _, _, rfl, HE.out, HK.out⟩
end Go.Proofs.YtmdhbbibghpijaaDoor
