/- IvlKeys: a set of one key has it alone; ends are kept. -/
import Derived.Test.YtglokhpgjfoneaaIvlLawB
namespace Go.Proofs.Ytglokhpgjfoneaa
open Go.RowKit

def oneB (q k : Int) : Bool := decide (q ≤ k) && decide (k ≤ q)
theorem oneB_iff {q k : Int} : oneB q k = true ↔ k = q := by simp [oneB]; omega
theorem cz_one {q : Int} (h : keyB q = true) : cz (oneB q) = 1 := by
  simp [keyB] at h
  have e : cnt 4294967296 (fun i => oneB q i) = cnt 4294967296 (fun i => decide (q.toNat ≤ i) && decide (i ≤ q.toNat)) := cnt_congr fun i _ => by
    unfold oneB
    have h1 : (q ≤ (i : Int)) ↔ q.toNat ≤ i := by omega
    have h2 : ((i : Int) ≤ q) ↔ i ≤ q.toNat := by omega
    rw [decide_eq_decide.2 h1, decide_eq_decide.2 h2]
  have e2 := cnt_span q.toNat q.toNat 4294967296
  rw [← e] at e2
  unfold cz
  rw [e2]
  omega
theorem bg_one (w : World) {q : Int} (h : keyB q = true) : Bg (w.alloc (.cells #[.int .u32 q, .int .u32 q] 38)) (some ⟨w.heap.size, 0, none⟩) 1 1 (oneB q) := by
  simp [keyB] at h
  refine ⟨[⟨q, q⟩], arg_made w _ [⟨q, q⟩] 1 rfl rfl (by simp [Sp.ok]; omega), fun k => by simp [hasB, oneB]⟩
theorem had_facts {f : Int → Bool} {q : Int} (hq : keyB q = true) (h : f q = true) : cz (fun k => f k || oneB q k) = cz f ∧ cz (fun k => f k && !oneB q k) = cz f - 1 ∧ 1 ≤ cz f := by
  have e1 : cz (fun k => f k || oneB q k) = cz f := cz_congr fun k _ => by
    cases h1 : oneB q k
    · simp
    · rw [oneB_iff] at h1; subst h1; simp [h]
  have e2 := cz_minus f (oneB q)
  have e3 : cz (fun k => f k && oneB q k) = cz (oneB q) := cz_congr fun k _ => by
    cases h1 : oneB q k
    · simp
    · rw [oneB_iff] at h1; subst h1; simp [h]
  rw [e3, cz_one hq] at e2
  have := cz_bd (fun k => f k && !oneB q k)
  exact ⟨e1, by omega, by omega⟩
theorem not_facts {f : Int → Bool} {q : Int} (hq : keyB q = true) (h : f q = false) : cz (fun k => f k || oneB q k) = cz f + 1 ∧ (∀ k, (f k && !oneB q k) = f k) ∧ ∀ k, ((f k || oneB q k) && !oneB q k) = f k := by
  have e2 := cz_add f (oneB q)
  have e3 : cz (fun k => f k && oneB q k) = 0 := cz_none fun k => by
    cases h1 : oneB q k
    · simp
    · rw [oneB_iff] at h1; subst h1; simp [h]
  rw [e3, cz_one hq] at e2
  refine ⟨by omega, fun k => ?_, fun k => ?_⟩
  · cases h1 : oneB q k
    · simp
    · rw [oneB_iff] at h1; subst h1; simp [h]
  · cases h1 : oneB q k
    · simp
    · rw [oneB_iff] at h1; subst h1; simp [h]

set_option maxRecDepth 100000 in
set_option maxHeartbeats 8000000 in
theorem keys_law (A : Option Addr) (n1 k1 : Nat) (f : Int → Bool) (key : Int) (w : World) (ha : Bg w A n1 k1 f) (l1 : n1 ≤ 40) (hkey : keyB key = true) :
    Calls Try.prog 5 #[.slice A n1 k1, .int .u32 key] w fun e w' => e = .returned (.bool true) ∧ Keep w w' := by
  have j1 : ¬ (40 : Int) < (n1 : Int) := by omega
  have HKY := Lib.hid hkey
  have HA0 := Lib.hid ha
  clear ha hkey
  go_enter Try.func5, Try.ntmps5
  go_wp2_with fail
  go_at_call 8
  refine (alive_any _).mono ?_
  rintro e w1 ⟨rfl, hk1⟩
  have hblk : (w1.alloc (.cells #[.int .u32 key, .int .u32 0, .int .u32 4294967295] 23)).heap[w1.heap.size]? = some (.cells #[.int .u32 key, .int .u32 0, .int .u32 4294967295] 23 (0, 0)) := World.alloc_heap_new _ _
  have hk2 := hk1.alloc (.cells #[.int .u32 key, .int .u32 0, .int .u32 4294967295] 23)
  have hlt : w1.heap.size < (w1.alloc (.cells #[.int .u32 key, .int .u32 0, .int .u32 4294967295] 23)).heap.size := by simp
  go_wp2_with fail
  generalize w1.alloc (.cells #[.int .u32 key, .int .u32 0, .int .u32 4294967295] 23) = W2 at *
  have HCL := Lib.hid (show ∀ j, j < 3 → ∃ q, W2.cell? ⟨w1.heap.size, j, none⟩ = some (.int .u32 q) ∧ keyB q = true by
    intro j hj
    rcases (show j = 0 ∨ j = 1 ∨ j = 2 by omega) with rfl | rfl | rfl
    · exact ⟨key, by simp [World.cell?, hblk], HKY.out⟩
    · exact ⟨0, by simp [World.cell?, hblk], by decide⟩
    · exact ⟨4294967295, by simp [World.cell?, hblk], by decide⟩)
  have HA1 := Lib.hid (HA0.out.keep hk2)
  clear hblk HA0 hk1
  go_loopw [20] (fun i wr => ∃ (j : Nat), j ≤ 3 ∧ i = .int .i64 j ∧ Keep W2 wr) (fun i _ => 3 - (intOf i).toNat)
  case atStart => exact ⟨0, by decide, rfl, Keep.refl _⟩
  case round =>
    obtain ⟨j, hj, rfl, hk⟩ := hrel
    by_cases hj3 : j < 3
    · obtain ⟨q, hq, hqk⟩ := HCL.out j hj3
      have c0 : wr.cell? ⟨w1.heap.size, j, none⟩ = some (.int .u32 q) := (hk.cell (p := ⟨w1.heap.size, j, none⟩) hlt).trans hq
      have c0' : wr.cell? ⟨w1.heap.size, 0 + j, none⟩ = some (.int .u32 q) := by rw [Nat.zero_add]; exact c0
      have hji : (j : Int) < 3 := by omega
      have hko := (Keep.refl wr).alloc (.cells #[.int .u32 q, .int .u32 q] 38)
      have Ha := Lib.hid (HA1.out.keep (hk.trans hko))
      have Hone := Lib.hid (bg_one wr hqk)
      have hKc := hk.trans hko
      have HQK := Lib.hid hqk
      obtain ⟨zf, hzf⟩ : ∃ z, cz f = z := ⟨_, rfl⟩
      have HZF := Lib.hid hzf
      have hzb := cz_bd f
      rw [hzf] at hzb
      clear hq hqk hzf
      cases hfq : f q
      · have hfa := not_facts HQK.out hfq
        rw [HZF.out] at hfa
        have HFA := Lib.hid hfa
        have HFQ := Lib.hid hfq
        have s1 : IntKind.u64.wrap (zf + 1) = zf + 1 := by rw [IntKind.wrap_u64]; omega
        clear hfa hfq
        go_wp2_with fail
        clear c0 c0'
        go_at_call 17
        refine (has_v q false Ha.out (by omega) HFQ.out).mono ?_
        rintro e w101 ⟨rfl, hk⟩
        replace Ha := Lib.hid (Ha.out.keep hk)
        replace Hone := Lib.hid (Hone.out.keep hk)
        replace hKc := hKc.trans hk
        clear hk
        go_wp2_with fail
        go_at_call 12
        refine (union_o Ha.out Hone.out (by omega) (by decide)).mono ?_
        rintro e w102 ⟨Amo, nmo, cmo, rfl, hk, hmo, hnmo⟩
        replace Ha := Lib.hid (Ha.out.keep hk)
        replace Hone := Lib.hid (Hone.out.keep hk)
        replace hKc := hKc.trans hk
        clear hk
        have Hmo := Lib.hid hmo
        clear hmo
        go_wp2_with fail
        go_at_call 14
        refine (minus_o Ha.out Hone.out (by omega) (by decide)).mono ?_
        rintro e w103 ⟨Ale, nle, cle, rfl, hk, hle, hnle⟩
        replace Ha := Lib.hid (Ha.out.keep hk)
        replace Hone := Lib.hid (Hone.out.keep hk)
        replace Hmo := Lib.hid (Hmo.out.keep hk)
        replace hKc := hKc.trans hk
        clear hk
        have Hle := Lib.hid hle
        clear hle
        go_wp2_with fail
        go_at_call 20
        refine (size_v zf Ha.out (by omega) HZF.out).mono ?_
        rintro e w104 ⟨rfl, hk⟩
        replace Ha := Lib.hid (Ha.out.keep hk)
        replace Hone := Lib.hid (Hone.out.keep hk)
        replace Hmo := Lib.hid (Hmo.out.keep hk)
        replace Hle := Lib.hid (Hle.out.keep hk)
        replace hKc := hKc.trans hk
        clear hk
        go_wp2_with fail
        go_at_call 17
        refine (has_v q true Hmo.out.bg (by omega) (by simp [oneB])).mono ?_
        rintro e w105 ⟨rfl, hk⟩
        replace Ha := Lib.hid (Ha.out.keep hk)
        replace Hone := Lib.hid (Hone.out.keep hk)
        replace Hmo := Lib.hid (Hmo.out.keep hk)
        replace Hle := Lib.hid (Hle.out.keep hk)
        replace hKc := hKc.trans hk
        clear hk
        go_wp2_with fail
        go_at_call 17
        refine (has_v q false Hle.out.bg (by omega) (by simp [oneB])).mono ?_
        rintro e w106 ⟨rfl, hk⟩
        replace Ha := Lib.hid (Ha.out.keep hk)
        replace Hone := Lib.hid (Hone.out.keep hk)
        replace Hmo := Lib.hid (Hmo.out.keep hk)
        replace Hle := Lib.hid (Hle.out.keep hk)
        replace hKc := hKc.trans hk
        clear hk
        go_wp2_with fail
        go_at_call 20
        refine (size_v (zf + 1) Hmo.out.bg (by omega) HFA.out.1).mono ?_
        rintro e w107 ⟨rfl, hk⟩
        replace Ha := Lib.hid (Ha.out.keep hk)
        replace Hone := Lib.hid (Hone.out.keep hk)
        replace Hmo := Lib.hid (Hmo.out.keep hk)
        replace Hle := Lib.hid (Hle.out.keep hk)
        replace hKc := hKc.trans hk
        clear hk
        go_wp2_with fail
        go_at_call 22
        refine (same_o true Hle.out.bg Ha.out (by omega) (by omega) ⟨fun _ => HFA.out.2.1, fun _ => rfl⟩).mono ?_
        rintro e w108 ⟨rfl, hk⟩
        replace Ha := Lib.hid (Ha.out.keep hk)
        replace Hone := Lib.hid (Hone.out.keep hk)
        replace Hmo := Lib.hid (Hmo.out.keep hk)
        replace Hle := Lib.hid (Hle.out.keep hk)
        replace hKc := hKc.trans hk
        clear hk
        go_wp2_with fail
        go_at_call 14
        refine (minus_o Hmo.out.bg Hone.out (by omega) (by decide)).mono ?_
        rintro e w109 ⟨Ap, np, cp, rfl, hk, hp, hnp⟩
        replace Ha := Lib.hid (Ha.out.keep hk)
        replace Hone := Lib.hid (Hone.out.keep hk)
        replace Hmo := Lib.hid (Hmo.out.keep hk)
        replace Hle := Lib.hid (Hle.out.keep hk)
        replace hKc := hKc.trans hk
        clear hk
        have Hp := Lib.hid hp
        clear hp
        go_wp2_with fail
        go_at_call 22
        refine (same_o true Hp.out.bg Ha.out (by omega) (by omega) ⟨fun _ => HFA.out.2.2, fun _ => rfl⟩).mono ?_
        rintro e w110 ⟨rfl, hk⟩
        replace Ha := Lib.hid (Ha.out.keep hk)
        replace Hone := Lib.hid (Hone.out.keep hk)
        replace Hmo := Lib.hid (Hmo.out.keep hk)
        replace Hle := Lib.hid (Hle.out.keep hk)
        replace Hp := Lib.hid (Hp.out.keep hk)
        replace hKc := hKc.trans hk
        clear hk
        go_wp2_with fail
        go_at_call 19
        refine (within_o false Hone.out Ha.out (by decide) (by omega) ⟨(fun h => by cases h), (fun h => by have := h q (oneB_iff.2 rfl); rw [HFQ.out] at this; cases this)⟩).mono ?_
        rintro e w111 ⟨rfl, hk⟩
        replace Ha := Lib.hid (Ha.out.keep hk)
        replace Hone := Lib.hid (Hone.out.keep hk)
        replace Hmo := Lib.hid (Hmo.out.keep hk)
        replace Hle := Lib.hid (Hle.out.keep hk)
        replace Hp := Lib.hid (Hp.out.keep hk)
        replace hKc := hKc.trans hk
        clear hk
        go_wp2_with fail
        go_roundw
        case rel => exact ⟨j + 1, by omega, by go_num, hKc⟩
        case measure => simp [intOf]; omega
      · have hfa := had_facts HQK.out hfq
        rw [HZF.out] at hfa
        have HFA := Lib.hid hfa
        have HFQ := Lib.hid hfq
        have s1 : IntKind.u64.wrap (zf - 1) = zf - 1 := by rw [IntKind.wrap_u64]; omega
        clear hfa hfq
        go_wp2_with fail
        clear c0 c0'
        go_at_call 17
        refine (has_v q true Ha.out (by omega) HFQ.out).mono ?_
        rintro e w101 ⟨rfl, hk⟩
        replace Ha := Lib.hid (Ha.out.keep hk)
        replace Hone := Lib.hid (Hone.out.keep hk)
        replace hKc := hKc.trans hk
        clear hk
        go_wp2_with fail
        go_at_call 12
        refine (union_o Ha.out Hone.out (by omega) (by decide)).mono ?_
        rintro e w102 ⟨Amo, nmo, cmo, rfl, hk, hmo, hnmo⟩
        replace Ha := Lib.hid (Ha.out.keep hk)
        replace Hone := Lib.hid (Hone.out.keep hk)
        replace hKc := hKc.trans hk
        clear hk
        have Hmo := Lib.hid hmo
        clear hmo
        go_wp2_with fail
        go_at_call 14
        refine (minus_o Ha.out Hone.out (by omega) (by decide)).mono ?_
        rintro e w103 ⟨Ale, nle, cle, rfl, hk, hle, hnle⟩
        replace Ha := Lib.hid (Ha.out.keep hk)
        replace Hone := Lib.hid (Hone.out.keep hk)
        replace Hmo := Lib.hid (Hmo.out.keep hk)
        replace hKc := hKc.trans hk
        clear hk
        have Hle := Lib.hid hle
        clear hle
        go_wp2_with fail
        go_at_call 20
        refine (size_v zf Ha.out (by omega) HZF.out).mono ?_
        rintro e w104 ⟨rfl, hk⟩
        replace Ha := Lib.hid (Ha.out.keep hk)
        replace Hone := Lib.hid (Hone.out.keep hk)
        replace Hmo := Lib.hid (Hmo.out.keep hk)
        replace Hle := Lib.hid (Hle.out.keep hk)
        replace hKc := hKc.trans hk
        clear hk
        go_wp2_with fail
        go_at_call 17
        refine (has_v q true Hmo.out.bg (by omega) (by simp [oneB])).mono ?_
        rintro e w105 ⟨rfl, hk⟩
        replace Ha := Lib.hid (Ha.out.keep hk)
        replace Hone := Lib.hid (Hone.out.keep hk)
        replace Hmo := Lib.hid (Hmo.out.keep hk)
        replace Hle := Lib.hid (Hle.out.keep hk)
        replace hKc := hKc.trans hk
        clear hk
        go_wp2_with fail
        go_at_call 17
        refine (has_v q false Hle.out.bg (by omega) (by simp [oneB])).mono ?_
        rintro e w106 ⟨rfl, hk⟩
        replace Ha := Lib.hid (Ha.out.keep hk)
        replace Hone := Lib.hid (Hone.out.keep hk)
        replace Hmo := Lib.hid (Hmo.out.keep hk)
        replace Hle := Lib.hid (Hle.out.keep hk)
        replace hKc := hKc.trans hk
        clear hk
        go_wp2_with fail
        go_at_call 20
        refine (size_v zf Hmo.out.bg (by omega) HFA.out.1).mono ?_
        rintro e w107 ⟨rfl, hk⟩
        replace Ha := Lib.hid (Ha.out.keep hk)
        replace Hone := Lib.hid (Hone.out.keep hk)
        replace Hmo := Lib.hid (Hmo.out.keep hk)
        replace Hle := Lib.hid (Hle.out.keep hk)
        replace hKc := hKc.trans hk
        clear hk
        go_wp2_with fail
        go_at_call 20
        refine (size_v (zf - 1) Hle.out.bg (by omega) HFA.out.2.1).mono ?_
        rintro e w108 ⟨rfl, hk⟩
        replace Ha := Lib.hid (Ha.out.keep hk)
        replace Hone := Lib.hid (Hone.out.keep hk)
        replace Hmo := Lib.hid (Hmo.out.keep hk)
        replace Hle := Lib.hid (Hle.out.keep hk)
        replace hKc := hKc.trans hk
        clear hk
        go_wp2_with fail
        go_at_call 19
        refine (within_o true Hone.out Ha.out (by decide) (by omega) ⟨fun _ k hk => by rw [oneB_iff] at hk; subst hk; exact HFQ.out, fun _ => rfl⟩).mono ?_
        rintro e w109 ⟨rfl, hk⟩
        replace Ha := Lib.hid (Ha.out.keep hk)
        replace Hone := Lib.hid (Hone.out.keep hk)
        replace Hmo := Lib.hid (Hmo.out.keep hk)
        replace Hle := Lib.hid (Hle.out.keep hk)
        replace hKc := hKc.trans hk
        clear hk
        go_wp2_with fail
        go_roundw
        case rel => exact ⟨j + 1, by omega, by go_num, hKc⟩
        case measure => simp [intOf]; omega
    · obtain rfl : j = 3 := by omega
      go_wp2
      go_ret
      exact ⟨rfl, hk2.trans hk⟩
set_option maxRecDepth 100000 in
theorem IvlKeys_std (A : Option Addr) (n1 k1 : Nat) (xs : List Sp) (key : Int) (hk : (Lit.int .u32 key).wf = true) (w : World) (ra : SpArg w A n1 k1 xs) :
    Calls Try.prog 5 #[.slice A n1 k1, .int .u32 key] w fun e w' => e = .returned (.bool true) ∧ Below w.heap.size w w' := by
  by_cases h : n1 ≤ 40
  · have hb := bounds_u32 hk
    exact keys_law A n1 k1 _ key w (Bg.of ra.2) h (by simp [keyB]; omega)
  · have j1 : (40 : Int) < (n1 : Int) := by omega
    clear h ra
    go_enter Try.func5, Try.ntmps5
    go_wp2_with (go_at_call 8; refine (alive_any _).mono ?_; rintro e w1 ⟨rfl, hk1⟩)
    go_ret
    exact ⟨rfl, hk1⟩
end Go.Proofs.Ytglokhpgjfoneaa
