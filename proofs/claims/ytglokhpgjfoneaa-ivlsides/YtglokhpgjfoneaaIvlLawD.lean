/- IvlSides: spans side by side are one; those with a key between are not. -/
import Derived.Test.YtglokhpgjfoneaaIvlLawC
namespace Go.Proofs.Ytglokhpgjfoneaa
open Go.RowKit

theorem make_o {A : Option Addr} {n c : Nat} {f : Int → Bool} {w : World} (h : Bg w A n c f) (hn : n ≤ 40000) :
    Calls Try.prog 11 #[.slice A n c] w (Out w f n) := by
  obtain ⟨zs, h1, h3⟩ := h
  exact (make_any A n c zs w h1.prs h1.nil (by omega) h1.ok).mono fun _ _ g => gives_out g (fun k => bg_mem h3 k)
theorem rev_sp {xs : List Sp} {k : Nat} {x : Sp} (h : xs[k]? = some x) : (xs.drop (k + 1)).reverse ++ [x] = (xs.drop k).reverse := by
  rw [(take_snoc h).2, List.reverse_cons]
theorem hasB_reverse (zs : List Sp) (k : Int) : hasB zs.reverse k = hasB zs k := by simp [hasB]

set_option maxRecDepth 100000 in
set_option maxHeartbeats 8000000 in
theorem sides_law (A : Option Addr) (n c : Nat) (zs : List Sp) (lo cut hi : Int) (w : World) (ha : Arg w A n c zs) (l1 : n ≤ 40) (h1 : 0 ≤ lo) (h2 : lo < cut) (h3 : cut < hi) (h4 : hi ≤ 4294967295) :
    Calls Try.prog 6 #[.slice A n c, .int .u32 lo, .int .u32 cut, .int .u32 hi] w fun e w' => e = .returned (.bool true) ∧ Keep w w' := by
  obtain ⟨i0, hii, hz0, hz1, hz2⟩ := info_parts infoSp
  have j1 : ¬ (40 : Int) < (n : Int) := by omega
  have j2 : ¬ (lo ≥ cut) := by omega
  have j3 : ¬ (cut ≥ hi) := by omega
  have v1 : IntKind.u32.wrap (cut - 1) = cut - 1 := by rw [IntKind.wrap_u32]; omega
  have v2 : IntKind.u32.wrap (cut + 1) = cut + 1 := by rw [IntKind.wrap_u32]; omega
  have HL := Lib.hid ha.len
  have HA0 := Lib.hid ha
  clear ha
  go_enter Try.func6, Try.ntmps6
  go_wp2_with fail
  go_at_call 8
  refine (alive_any _).mono ?_
  rintro e w1 ⟨rfl, hk1⟩
  have q1 := arg_made w1 #[.int .u32 lo, .int .u32 hi] [⟨lo, hi⟩] 1 rfl rfl (by simp [Sp.ok]; omega)
  have q2 := arg_made (w1.alloc (.cells #[.int .u32 lo, .int .u32 hi] 38)) #[.int .u32 cut, .int .u32 hi, .int .u32 lo, .int .u32 (cut - 1)] [⟨cut, hi⟩, ⟨lo, cut - 1⟩] 2 rfl rfl (by simp [Sp.ok]; omega)
  have q3 := arg_made ((w1.alloc (.cells #[.int .u32 lo, .int .u32 hi] 38)).alloc (.cells #[.int .u32 cut, .int .u32 hi, .int .u32 lo, .int .u32 (cut - 1)] 38)) #[.int .u32 lo, .int .u32 (cut - 1), .int .u32 (cut + 1), .int .u32 hi] [⟨lo, cut - 1⟩, ⟨cut + 1, hi⟩] 2 rfl rfl (by simp [Sp.ok]; omega)
  rw [show (w1.alloc (.cells #[.int .u32 lo, .int .u32 hi] 38)).heap.size = w1.heap.size + 1 by simp] at q2
  rw [show ((w1.alloc (.cells #[.int .u32 lo, .int .u32 hi] 38)).alloc (.cells #[.int .u32 cut, .int .u32 hi, .int .u32 lo, .int .u32 (cut - 1)] 38)).heap.size = w1.heap.size + 2 by simp] at q3
  have r1 := q1.keep (((Keep.refl _).alloc (.cells #[.int .u32 cut, .int .u32 hi, .int .u32 lo, .int .u32 (cut - 1)] 38)).alloc (.cells #[.int .u32 lo, .int .u32 (cut - 1), .int .u32 (cut + 1), .int .u32 hi] 38))
  have r2 := q2.keep ((Keep.refl _).alloc (.cells #[.int .u32 lo, .int .u32 (cut - 1), .int .u32 (cut + 1), .int .u32 hi] 38))
  have hk3 := ((hk1.alloc (.cells #[.int .u32 lo, .int .u32 hi] 38)).alloc (.cells #[.int .u32 cut, .int .u32 hi, .int .u32 lo, .int .u32 (cut - 1)] 38)).alloc (.cells #[.int .u32 lo, .int .u32 (cut - 1), .int .u32 (cut + 1), .int .u32 hi] 38)
  have hsz : (((w1.alloc (.cells #[.int .u32 lo, .int .u32 hi] 38)).alloc (.cells #[.int .u32 cut, .int .u32 hi, .int .u32 lo, .int .u32 (cut - 1)] 38)).alloc (.cells #[.int .u32 lo, .int .u32 (cut - 1), .int .u32 (cut + 1), .int .u32 hi] 38)).heap.size = w1.heap.size + 3 := by simp
  have oN := World.ownsRow_made (base := (((w1.alloc (.cells #[.int .u32 lo, .int .u32 hi] 38)).alloc (.cells #[.int .u32 cut, .int .u32 hi, .int .u32 lo, .int .u32 (cut - 1)] 38)).alloc (.cells #[.int .u32 lo, .int .u32 (cut - 1), .int .u32 (cut + 1), .int .u32 hi] 38)).heap.size) (e := 38) (size := 2) (((w1.alloc (.cells #[.int .u32 lo, .int .u32 hi] 38)).alloc (.cells #[.int .u32 cut, .int .u32 hi, .int .u32 lo, .int .u32 (cut - 1)] 38)).alloc (.cells #[.int .u32 lo, .int .u32 (cut - 1), .int .u32 (cut + 1), .int .u32 hi] 38)) #[] 0 (Nat.le_refl _) (by simp) rfl
  clear q1 q2
  go_wp2_with fail
  generalize ((w1.alloc (.cells #[.int .u32 lo, .int .u32 hi] 38)).alloc (.cells #[.int .u32 cut, .int .u32 hi, .int .u32 lo, .int .u32 (cut - 1)] 38)).alloc (.cells #[.int .u32 lo, .int .u32 (cut - 1), .int .u32 (cut + 1), .int .u32 hi] 38) = W3 at *
  have HW1 := Lib.hid (And.intro r1 (And.intro r2 q3))
  rw [hsz] at oN
  have hoN : Own (W3.alloc (.cells #[] 38)) W3.heap.size (some ⟨w1.heap.size + 3, 0, none⟩) 0 0 [] := by rw [hsz]; exact oN
  have HA3 := Lib.hid (HA0.out.keep hk3)
  clear r1 r2 q3 oN HA0 hk1
  go_loopw [12, 13] (fun t i ws => ∃ (k : Nat) (D : Option Addr) (e : Nat), k ≤ n ∧ i = .int .i64 ((k : Int) - 1) ∧ t = .slice D (n - k) e ∧ Own ws W3.heap.size D (n - k) e (zs.drop k).reverse ∧ Keep W3 ws) (fun t i _ => (intOf i + 1).toNat)
  case atStart => exact ⟨n, _, 0, Nat.le_refl _, rfl, by rw [Nat.sub_self], by rw [Nat.sub_self, List.drop_eq_nil_of_le (by rw [HL.out]; exact Nat.le_refl _)]; exact hoN, (Keep.refl _).alloc _⟩
  case round =>
    obtain ⟨k, D, e, hkn, rfl, rfl, hO, hk⟩ := hrel
    clear hoN
    by_cases hk0 : k = 0
    · subst hk0
      rw [Nat.sub_zero, List.drop_zero] at hO
      rw [Nat.sub_zero, show ((0 : Nat) : Int) - 1 = -1 from rfl]
      have hOr : Own wr W3.heap.size D zs.reverse.length e zs.reverse := by rw [List.length_reverse, HL.out]; exact hO
      obtain ⟨o1, o2, o3⟩ := own_gives hOr
      rw [List.length_reverse, HL.out] at o1 o2
      have hbk : Arg wr D n e zs.reverse := ⟨o1, o2, o3, fun s hs => HA3.out.ok s (List.mem_reverse.1 hs)⟩
      have Ha := Lib.hid (Bg.of (HA3.out.keep hk))
      have Hb := Lib.hid (show Bg wr D n e (hasB zs) from ⟨zs.reverse, hbk, hasB_reverse zs⟩)
      have Hw := Lib.hid (HW1.out.1.keep hk)
      have Ht := Lib.hid (HW1.out.2.1.keep hk)
      have Hp := Lib.hid (HW1.out.2.2.keep hk)
      have hKc := hk
      clear hO hOr o1 o2 o3 hbk hk hkn
      go_wp2_with fail
      go_at_call 22
      refine (same_any _ 2 _ [⟨cut, hi⟩, ⟨lo, cut - 1⟩] _ 1 _ [⟨lo, hi⟩] true _ Ht.out Hw.out (by decide) (by decide) (by simp [mem, inS]; omega)).mono ?_
      rintro e w101 ⟨rfl, hk⟩
      replace Ha := Lib.hid (Ha.out.keep hk)
      replace Hb := Lib.hid (Hb.out.keep hk)
      replace Hw := Lib.hid (Hw.out.keep hk)
      replace Ht := Lib.hid (Ht.out.keep hk)
      replace Hp := Lib.hid (Hp.out.keep hk)
      replace hKc := hKc.trans hk
      clear hk
      go_wp2_with fail
      go_at_call 11
      refine (make_to _ 2 _ [⟨cut, hi⟩, ⟨lo, cut - 1⟩] [⟨lo, hi⟩] _ Ht.out (by decide) ⟨by simp [Rt]; omega, fun k => by simp [mem, inS]; omega, by simp [Sp.ok]; omega⟩).mono ?_
      rintro e w102 ⟨v, rfl, hk, AzHt, czHt, rfl, -⟩
      replace Ha := Lib.hid (Ha.out.keep hk)
      replace Hb := Lib.hid (Hb.out.keep hk)
      replace Hw := Lib.hid (Hw.out.keep hk)
      replace Ht := Lib.hid (Ht.out.keep hk)
      replace Hp := Lib.hid (Hp.out.keep hk)
      replace hKc := hKc.trans hk
      clear hk
      go_wp2_with fail
      go_at_call 16
      refine (right_is _ 2 _ [⟨cut, hi⟩, ⟨lo, cut - 1⟩] false _ Ht.out (by decide) (by simp [Rt]; omega)).mono ?_
      rintro e w103 ⟨rfl, hk⟩
      replace Ha := Lib.hid (Ha.out.keep hk)
      replace Hb := Lib.hid (Hb.out.keep hk)
      replace Hw := Lib.hid (Hw.out.keep hk)
      replace Ht := Lib.hid (Ht.out.keep hk)
      replace Hp := Lib.hid (Hp.out.keep hk)
      replace hKc := hKc.trans hk
      clear hk
      go_wp2_with fail
      go_at_call 11
      refine (make_to _ 2 _ [⟨lo, cut - 1⟩, ⟨cut + 1, hi⟩] [⟨lo, cut - 1⟩, ⟨cut + 1, hi⟩] _ Hp.out (by decide) ⟨by simp [Rt]; omega, fun k => Iff.rfl, by simp [Sp.ok]; omega⟩).mono ?_
      rintro e w104 ⟨v, rfl, hk, AzHp, czHp, rfl, -⟩
      replace Ha := Lib.hid (Ha.out.keep hk)
      replace Hb := Lib.hid (Hb.out.keep hk)
      replace Hw := Lib.hid (Hw.out.keep hk)
      replace Ht := Lib.hid (Ht.out.keep hk)
      replace Hp := Lib.hid (Hp.out.keep hk)
      replace hKc := hKc.trans hk
      clear hk
      go_wp2_with fail
      go_at_call 16
      refine (right_is _ 2 _ [⟨lo, cut - 1⟩, ⟨cut + 1, hi⟩] true _ Hp.out (by decide) (by simp [Rt]; omega)).mono ?_
      rintro e w105 ⟨rfl, hk⟩
      replace Ha := Lib.hid (Ha.out.keep hk)
      replace Hb := Lib.hid (Hb.out.keep hk)
      replace Hw := Lib.hid (Hw.out.keep hk)
      replace Ht := Lib.hid (Ht.out.keep hk)
      replace Hp := Lib.hid (Hp.out.keep hk)
      replace hKc := hKc.trans hk
      clear hk
      go_wp2_with fail
      go_at_call 14
      have hoc := (Keep.refl w105).alloc (.cells #[.int .u32 cut, .int .u32 cut] 38)
      have qc := bg_one w105 (q := cut) (by simp [keyB]; omega)
      replace Ha := Lib.hid (Ha.out.keep hoc)
      replace Hb := Lib.hid (Hb.out.keep hoc)
      replace Hw := Lib.hid (Hw.out.keep hoc)
      replace Ht := Lib.hid (Ht.out.keep hoc)
      replace Hp := Lib.hid (Hp.out.keep hoc)
      replace hKc := hKc.trans hoc
      clear hoc
      refine (minus_o (Bg.of Hw.out) qc (by decide) (by decide)).mono ?_
      rintro e w200 ⟨Ad, nd, cd, rfl, hk, hd, hnd⟩
      clear qc
      replace Ha := Lib.hid (Ha.out.keep hk)
      replace Hb := Lib.hid (Hb.out.keep hk)
      replace Hw := Lib.hid (Hw.out.keep hk)
      replace Ht := Lib.hid (Ht.out.keep hk)
      replace Hp := Lib.hid (Hp.out.keep hk)
      replace hKc := hKc.trans hk
      clear hk
      have Hd := Lib.hid hd
      clear hd
      go_wp2_with fail
      go_at_call 22
      refine (same_o true Hd.out.bg (Bg.of Hp.out) (by omega) (by decide) ⟨fun _ k => by rw [Bool.eq_iff_iff]; simp [hasB, oneB]; omega, fun _ => rfl⟩).mono ?_
      rintro e w106 ⟨rfl, hk⟩
      replace Ha := Lib.hid (Ha.out.keep hk)
      replace Hb := Lib.hid (Hb.out.keep hk)
      replace Hw := Lib.hid (Hw.out.keep hk)
      replace Ht := Lib.hid (Ht.out.keep hk)
      replace Hp := Lib.hid (Hp.out.keep hk)
      replace Hd := Lib.hid (Hd.out.keep hk)
      replace hKc := hKc.trans hk
      clear hk
      go_wp2_with fail
      go_at_call 22
      refine (same_o true Ha.out Hb.out (by omega) (by omega) (by simp)).mono ?_
      rintro e w107 ⟨rfl, hk⟩
      replace Ha := Lib.hid (Ha.out.keep hk)
      replace Hb := Lib.hid (Hb.out.keep hk)
      replace Hw := Lib.hid (Hw.out.keep hk)
      replace Ht := Lib.hid (Ht.out.keep hk)
      replace Hp := Lib.hid (Hp.out.keep hk)
      replace Hd := Lib.hid (Hd.out.keep hk)
      replace hKc := hKc.trans hk
      clear hk
      go_wp2_with fail
      go_at_call 11
      refine (make_o Hb.out (by omega)).mono ?_
      rintro e w108 ⟨Az, nz, cz, rfl, hk, hz, hnz⟩
      replace Ha := Lib.hid (Ha.out.keep hk)
      replace Hb := Lib.hid (Hb.out.keep hk)
      replace Hw := Lib.hid (Hw.out.keep hk)
      replace Ht := Lib.hid (Ht.out.keep hk)
      replace Hp := Lib.hid (Hp.out.keep hk)
      replace Hd := Lib.hid (Hd.out.keep hk)
      replace hKc := hKc.trans hk
      clear hk
      have Hz := Lib.hid hz
      clear hz
      go_wp2_with fail
      go_at_call 16
      refine (right_o Hz.out (by omega)).mono ?_
      rintro e w109 ⟨rfl, hk⟩
      replace Ha := Lib.hid (Ha.out.keep hk)
      replace Hb := Lib.hid (Hb.out.keep hk)
      replace Hw := Lib.hid (Hw.out.keep hk)
      replace Ht := Lib.hid (Ht.out.keep hk)
      replace Hp := Lib.hid (Hp.out.keep hk)
      replace Hd := Lib.hid (Hd.out.keep hk)
      replace Hz := Lib.hid (Hz.out.keep hk)
      replace hKc := hKc.trans hk
      clear hk
      go_wp2
      go_ret
      exact ⟨rfl, hk3.trans hKc⟩
    · obtain ⟨m, rfl⟩ : ∃ m, k = m + 1 := ⟨k - 1, by omega⟩
      rw [show ((m + 1 : Nat) : Int) - 1 = (m : Int) by omega]
      obtain ⟨r, hr⟩ : ∃ r, n - (m + 1) = r := ⟨_, rfl⟩
      rw [hr] at hO ⊢
      obtain ⟨x, hx⟩ : ∃ x, zs[m]? = some x := ⟨_, List.getElem?_eq_getElem (by rw [HL.out]; omega)⟩
      obtain ⟨b, off, ea, hb, d0, d1⟩ := SpS.cells (HA3.out.keep hk).prs m x hx
      subst ea
      have HT := Lib.hid (rev_sp hx)
      have HO := Lib.hid hO
      have hmn : (m : Int) < (n : Int) := by omega
      have HR := Lib.hid (show n - m = r + 1 by omega)
      have hr3 : r ≤ 40 := by omega
      have hml : r + 1 ≤ maxLen := by unfold maxLen; omega
      have hby : (r + 1) * 8 ≤ 140737488355328 := by omega
      have hk5 := hk.alloc (.cells #[.int .u32 x.lo, .int .u32 x.hi] 38)
      have hbs : W3.heap.size ≤ (wr.alloc (.cells #[.int .u32 x.lo, .int .u32 x.hi] 38)).heap.size := hk5.size
      have HO5 := Lib.hid (own_keep HO.out ((Keep.refl wr).alloc (.cells #[.int .u32 x.lo, .int .u32 x.hi] 38)))
      have HP5 := Lib.hid (Prs.made (f := fun s : Sp => Value.int .u32 s.lo) (g := fun s : Sp => Value.int .u32 s.hi) wr #[.int .u32 x.lo, .int .u32 x.hi] 38 [x] rfl)
      clear hx hO hr
      go_wp2_with (first
        | (at_builtin; go_must (refine wpList_append_prs rfl _ _ 22 rfl W3.heap.size 38 i0 (.agg #[.int .u32 0, .int .u32 0]) 8 Try.underlying22 hii hz0 hz1 hz2 rfl spOne _ r _ rfl HO5.out _ _ 1 1 [x] rfl HP5.out (fun h => by cases h) hml hby hbs ?_); intro A5 c5 w5 hown5 hgrow5 _))
      have hK5 : Keep W3 w5 := Only.keep hk5 (Only.grown (S := fun k => W3.heap.size ≤ k) (Only.refl _ _) hgrow5 (fun k _ e => (HO.out.lt k e).1)) (fun k e => e)
      rw [HT.out] at hown5
      go_wp2_with fail
      go_roundw
      case rel => exact ⟨m, A5, c5, by omega, by go_num, by rw [HR.out], by rw [HR.out]; exact hown5, hK5⟩
      case measure => simp [intOf]
set_option maxRecDepth 100000 in
set_option maxHeartbeats 1000000 in
theorem sides_long (A : Option Addr) (n c : Nat) (lo cut hi : Int) (w : World) (h : ¬ (n ≤ 40 ∧ lo < cut ∧ cut < hi)) :
    Calls Try.prog 6 #[.slice A n c, .int .u32 lo, .int .u32 cut, .int .u32 hi] w fun e w' => e = .returned (.bool true) ∧ Keep w w' := by
  by_cases h1 : 40 < n
  · have j1 : (40 : Int) < (n : Int) := by omega
    clear h
    go_enter Try.func6, Try.ntmps6
    go_wp2_with (go_at_call 8; refine (alive_any _).mono ?_; rintro e w1 ⟨rfl, hk1⟩)
    go_ret
    exact ⟨rfl, hk1⟩
  · have j1 : ¬ (40 : Int) < (n : Int) := by omega
    by_cases h2 : lo ≥ cut
    · clear h
      go_enter Try.func6, Try.ntmps6
      go_wp2_with (go_at_call 8; refine (alive_any _).mono ?_; rintro e w1 ⟨rfl, hk1⟩)
      go_ret
      exact ⟨rfl, hk1⟩
    · have h3 : cut ≥ hi := by omega
      clear h
      go_enter Try.func6, Try.ntmps6
      go_wp2_with (go_at_call 8; refine (alive_any _).mono ?_; rintro e w1 ⟨rfl, hk1⟩)
      go_ret
      exact ⟨rfl, hk1⟩
theorem IvlSides_std (A : Option Addr) (n c : Nat) (zs : List Sp) (lo : Int) (hl : (Lit.int .u32 lo).wf = true) (cut : Int) (_ : (Lit.int .u32 cut).wf = true) (hi : Int) (hh : (Lit.int .u32 hi).wf = true) (w : World) (ra : SpArg w A n c zs) :
    Calls Try.prog 6 #[.slice A n c, .int .u32 lo, .int .u32 cut, .int .u32 hi] w fun e w' => e = .returned (.bool true) ∧ Below w.heap.size w w' := by
  by_cases h : n ≤ 40 ∧ lo < cut ∧ cut < hi
  · exact sides_law A n c zs lo cut hi w ra.2 h.1 (bounds_u32 hl).1 h.2.1 h.2.2 (bounds_u32 hh).2
  · exact sides_long A n c lo cut hi w h
end Go.Proofs.Ytglokhpgjfoneaa
