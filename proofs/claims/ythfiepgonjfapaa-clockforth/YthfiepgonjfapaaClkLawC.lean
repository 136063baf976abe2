/- ClockSums: ticks in whichever order end at the same time. -/
import Derived.Test.YthfiepgonjfapaaClkAt
namespace Go.Proofs.Ythfiepgonjfapaa
open Go.RowKit

theorem and_low (m : Int) : ∃ k : Nat, k < 1125899906842624 ∧ bits BinOp.and IntKind.i64 m 1125899906842623 = (k : Int) := by
  have e1 : (BitVec.ofInt 64 m &&& BitVec.ofInt 64 1125899906842623).toNat = (m % 18446744073709551616).toNat % 2 ^ 50 := by
    rw [BitVec.toNat_and, show (BitVec.ofInt 64 1125899906842623) = BitVec.ofNat 64 1125899906842623 from rfl, BitVec.toNat_ofNat, BitVec.toNat_ofInt, show 1125899906842623 % 2 ^ 64 = 2 ^ 50 - 1 from rfl, Nat.and_two_pow_sub_one_eq_mod]
    rfl
  refine ⟨(m % 18446744073709551616).toNat % 2 ^ 50, Nat.mod_lt _ (by decide), ?_⟩
  show IntKind.i64.wrap ((BitVec.ofInt 64 m &&& BitVec.ofInt 64 1125899906842623).toNat : Int) = _
  rw [e1]
  have hlt : (m % 18446744073709551616).toNat % 2 ^ 50 < 1125899906842624 := Nat.mod_lt _ (by decide)
  generalize (m % 18446744073709551616).toNat % 2 ^ 50 = q at *
  simp only [IntKind.wrap, IntKind.bits, IntKind.signed]
  simp
  omega

/-- All that goes on. -/
def tot (zs : List Int) : Int := (zs.map fun z => max z 0).sum
theorem tot_cons (z : Int) (zs : List Int) : tot (z :: zs) = max z 0 + tot zs := by simp [tot]
theorem tot_nonneg (zs : List Int) : 0 ≤ tot zs := by
  induction zs with
  | nil => simp [tot]
  | cons z zs ih => rw [tot_cons]; omega
theorem later_two {c x y : Int} (hx : 0 ≤ x) (hy : 0 ≤ y) : later (later c x) y = later c (x + y) := by
  unfold later
  repeat (split <;> try omega)
theorem later_pos {c n : Int} : later c (max n 0) = later c n := by
  unfold later
  repeat (split <;> try omega)
theorem lates_tot (zs : List Int) : ∀ c : Int, c ≤ 1125899906842624 → lates c zs = later c (tot zs) := by
  induction zs with
  | nil => intro c _; simp [lates, tot, later]
  | cons z zs ih =>
    intro c h1
    have h2 : later c z ≤ 1125899906842624 := later_le h1
    rw [tot_cons, ← later_two (by omega) (tot_nonneg zs), later_pos]
    exact ih (later c z) h2
theorem tot_rev (zs : List Int) : tot zs.reverse = tot zs := by simp [tot, List.sum_reverse]
def pos (zs : List Int) : List Int := zs.filter fun z => decide (0 < z)
theorem tot_pos (zs : List Int) : tot (pos zs) = tot zs := by
  induction zs with
  | nil => rfl
  | cons z zs ih =>
    by_cases h : 0 < z
    · rw [show pos (z :: zs) = z :: pos zs by simp [pos, h], tot_cons, tot_cons, ih]
    · rw [show pos (z :: zs) = pos zs by simp [pos, h], tot_cons, ih]; omega
theorem pos_snoc (zs : List Int) (v : Int) : pos (zs ++ [v]) = if 0 < v then pos zs ++ [v] else pos zs := by
  unfold pos
  rw [List.filter_append]
  by_cases h : 0 < v <;> simp [h]

/-- Three clocks of one's own. -/
structure Own3 (w0 : World) (p : Nat) (x y z : Int) (w : World) : Prop where
  a : Own w0 p x w
  b : Own w0 (p + 1) y w
  c : Own w0 (p + 1 + 1) z w
section
variable {w0 w : World} {p : Nat} {x y z : Int}
theorem Own3.new (w0 w : World) (hk : Keep w0 w) : Own3 w0 w.heap.size 0 0 0 (((w.alloc (.cells #[.int .i64 0] 25)).alloc (.cells #[.int .i64 0] 25)).alloc (.cells #[.int .i64 0] 25)) := by
  have h1 := Own.new w0 w hk
  have h2 := Own.new w0 _ h1.keep
  have h3 := Own.new w0 _ h2.keep
  have e2 : (w.alloc (.cells #[.int .i64 0] 25)).heap.size = w.heap.size + 1 := by simp
  have e3 : ((w.alloc (.cells #[.int .i64 0] 25)).alloc (.cells #[.int .i64 0] 25)).heap.size = w.heap.size + 1 + 1 := by simp
  rw [e2] at h2
  rw [e3] at h3
  exact ⟨(h1.kept ((Keep.refl _).alloc _)).kept ((Keep.refl _).alloc _), h2.kept ((Keep.refl _).alloc _), h3⟩
theorem o3_a (n d : Int) (h : Own3 w0 p x y z w) (hn : inI n) (hd : later x n = d) :
    Calls Try.prog 11 #[.pointer (some ⟨p, 0, none⟩), .int .i64 n] w fun e w' => e = .returned (.int .i64 d) ∧ Own3 w0 p d y z w' :=
  (o_tick n d h.a hn hd).mono fun _ _ ⟨h1, h2, h3⟩ => ⟨h1, h2, h.b.only h3 (by omega) (fun k hk => by rw [hk]; exact h.a.lo), h.c.only h3 (by omega) (fun k hk => by rw [hk]; exact h.a.lo)⟩
theorem o3_b (n d : Int) (h : Own3 w0 p x y z w) (hn : inI n) (hd : later y n = d) :
    Calls Try.prog 11 #[.pointer (some ⟨p + 1, 0, none⟩), .int .i64 n] w fun e w' => e = .returned (.int .i64 d) ∧ Own3 w0 p x d z w' :=
  (o_tick n d h.b hn hd).mono fun _ _ ⟨h1, h2, h3⟩ => ⟨h1, h.a.only h3 (by omega) (fun k hk => by rw [hk]; exact h.b.lo), h2, h.c.only h3 (by omega) (fun k hk => by rw [hk]; exact h.b.lo)⟩
theorem o3_c (n d : Int) (h : Own3 w0 p x y z w) (hn : inI n) (hd : later z n = d) :
    Calls Try.prog 11 #[.pointer (some ⟨p + 1 + 1, 0, none⟩), .int .i64 n] w fun e w' => e = .returned (.int .i64 d) ∧ Own3 w0 p x y d w' :=
  (o_tick n d h.c hn hd).mono fun _ _ ⟨h1, h2, h3⟩ => ⟨h1, h.a.only h3 (by omega) (fun k hk => by rw [hk]; exact h.c.lo), h.b.only h3 (by omega) (fun k hk => by rw [hk]; exact h.c.lo), h2⟩
end

set_option maxRecDepth 100000 in
set_option maxHeartbeats 4000000 in
theorem sums_law (A : Option Addr) (len cap : Nat) (zs : List Int) (m n : Int) (w : World) (row : Arr .i64 w A len zs) :
    Calls Try.prog 7 #[.slice A len cap, .int .i64 m, .int .i64 n] w fun e w' => e = .returned (.bool true) ∧ Keep w w' := by
  have hz : ∀ z ∈ zs, inI z := fun z hz => inI_of (row.2.2 z hz)
  obtain ⟨hml, hL, -⟩ := row
  unfold maxLen at hml
  by_cases h3 : 100 < len
  · clear hz hL
    go_enter Try.func7, Try.ntmps7
    go_wp2_with (go_at_call 8; refine (alive_any _).mono ?_; rintro e w1 ⟨rfl, hk1⟩)
    go_ret
    exact ⟨rfl, hk1⟩
  · have hl : zs.length = len := by have := hL.1; rwa [vals_length] at this
    have HLN := Lib.hid hl
    have HL := Lib.hid hL
    have HZ := Lib.hid hz
    have hl3 : (len : Int) ≤ 100 := by omega
    obtain ⟨k, hk, hb⟩ := and_low m
    obtain ⟨q, hq, hc⟩ := and_low n
    have hk2 : (k : Int) ≤ 1125899906842623 := by omega
    have hq2 : (q : Int) ≤ 1125899906842623 := by omega
    clear hl hL hz hml hk hq
    go_enter Try.func7, Try.ntmps7
    go_wp2_with fail
    go_at_call 8
    refine (alive_any _).mono ?_
    rintro e w1 ⟨rfl, hk1⟩
    have H0 := Lib.hid (Own3.new w w1 hk1)
    clear hk1
    go_wp2_with fail
    generalize ((w1.alloc (.cells #[.int .i64 0] 25)).alloc (.cells #[.int .i64 0] 25)).alloc (.cells #[.int .i64 0] 25) = W1 at *
    generalize w1.heap.size = b at *
    go_loopw [20] (fun i wr => ∃ (j : Nat), j ≤ len ∧ i = .int .i64 j ∧ Own3 w b (lates 0 (zs.take j)) (lates 0 (zs.reverse.take j)) (lates 0 (pos (zs.take j))) wr) (fun i _ => len - (intOf i).toNat)
    case atStart => exact ⟨0, Nat.zero_le _, rfl, H0.out⟩
    case round =>
      obtain ⟨j, hj, rfl, hO⟩ := hrel
      have HO := Lib.hid hO
      clear hO H0
      by_cases hlt : j < len
      · obtain ⟨v, hv⟩ : ∃ v, zs[j]? = some v := ⟨_, List.getElem?_eq_getElem (by rw [HLN.out]; exact hlt)⟩
        obtain ⟨r, hr⟩ : ∃ r, r + j + 1 = len := ⟨len - 1 - j, by omega⟩
        have hrl : r < len := by omega
        obtain ⟨u, hu⟩ : ∃ u, zs[r]? = some u := ⟨_, List.getElem?_eq_getElem (by rw [HLN.out]; exact hrl)⟩
        have hur : zs.reverse[j]? = some u := by
          rw [List.getElem?_reverse (by rw [HLN.out]; exact hlt), HLN.out, ← hu]
          congr 1
          omega
        obtain ⟨b1, off, e⟩ := row_addr HL.out (by omega)
        subst e
        have HL2 := Lib.hid (HL.out.up HO.out.a.keep)
        have c0 := row_at HL2.out hlt hv
        have hjm : (j : Int) < (len : Int) := by omega
        have he : (len : Int) - 1 - (j : Int) = (r : Int) := by omega
        have hrm : (r : Int) < (len : Int) := by omega
        have HV := Lib.hid (HZ.out v (List.mem_of_getElem? hv))
        have HU := Lib.hid (HZ.out u (List.mem_of_getElem? hu))
        have HU2 := Lib.hid hu
        have HT := Lib.hid (show lates 0 (zs.take (j + 1)) = later (lates 0 (zs.take j)) v by rw [take_succ hv, lates_snoc])
        have HS := Lib.hid (show lates 0 (zs.reverse.take (j + 1)) = later (lates 0 (zs.reverse.take j)) u by rw [take_succ hur, lates_snoc])
        have HP := Lib.hid (show pos (zs.take (j + 1)) = if 0 < v then pos (zs.take j) ++ [v] else pos (zs.take j) by rw [take_succ hv, pos_snoc])
        have HR := Lib.hid hr
        clear hv hu hur hr
        go_wp2_with fail
        refine (o3_a v _ HO.out HV.out rfl).mono ?_
        rintro e w2 ⟨rfl, h2⟩
        have H2 := Lib.hid h2
        have c1 := row_at (HL.out.up h2.a.keep) hrl HU2.out
        clear h2 HO c0
        go_wp2_with fail
        refine (o3_b u _ H2.out HU.out rfl).mono ?_
        rintro e w3 ⟨rfl, h3⟩
        have H3 := Lib.hid h3
        clear h3 H2 c1
        by_cases hp : 0 < v
        · go_wp2_with fail
          refine (o3_c v _ H3.out HV.out rfl).mono ?_
          rintro e w4 ⟨rfl, h4⟩
          have H4 := Lib.hid h4
          clear h4 H3
          go_wp2_with fail
          go_roundw
          case rel => exact ⟨j + 1, hlt, by go_num, by rw [HT.out, HS.out, HP.out, if_pos hp, lates_snoc]; exact H4.out⟩
          case measure => simp [intOf]; omega
        · go_wp2_with fail
          go_roundw
          case rel => exact ⟨j + 1, hlt, by go_num, by rw [HT.out, HS.out, HP.out, if_neg (show ¬ 0 < v by omega)]; exact H3.out⟩
          case measure => simp [intOf]; omega
      · obtain rfl : j = len := by omega
        clear hlt hj
        have hE := HO.out
        rw [List.take_of_length_le (by rw [HLN.out]; exact Nat.le_refl _), List.take_of_length_le (by rw [List.length_reverse, HLN.out]; exact Nat.le_refl _)] at hE
        rw [lates_tot _ 0 (by decide), lates_tot _ 0 (by decide), lates_tot _ 0 (by decide), tot_rev, tot_pos] at hE
        generalize later 0 (tot zs) = c at *
        have HE := Lib.hid hE
        obtain ⟨d, hd⟩ : ∃ d, later c k = d := ⟨_, rfl⟩
        obtain ⟨f, hf⟩ : ∃ f, later d q = f := ⟨_, rfl⟩
        have HF2 := Lib.hid (show later c ((k : Int) + (q : Int)) = f by rw [← later_two (by omega) (by omega), hd, hf])
        have HD := Lib.hid hd
        have HF := Lib.hid hf
        have hI : inI (k : Int) ∧ inI (q : Int) ∧ inI ((k : Int) + (q : Int)) := ⟨⟨by omega, by omega⟩, ⟨by omega, by omega⟩, ⟨by omega, by omega⟩⟩
        have HI := Lib.hid hI
        clear hE hd hf HO hI
        go_wp2_with fail
        refine (o_now HE.out.a).mono ?_
        rintro e w5 ⟨rfl, rfl⟩
        go_wp2_with fail
        refine (o_now HE.out.b).mono ?_
        rintro e w5 ⟨rfl, rfl⟩
        go_wp2_with fail
        refine (o_now HE.out.a).mono ?_
        rintro e w5 ⟨rfl, rfl⟩
        go_wp2_with fail
        refine (o_now HE.out.c).mono ?_
        rintro e w5 ⟨rfl, rfl⟩
        go_wp2_with fail
        refine (o_after ((k : Int) + (q : Int)) f HE.out.a HI.out.2.2 HF2.out).mono ?_
        rintro e w5 ⟨rfl, rfl⟩
        go_wp2_with fail
        refine (o3_a k d HE.out HI.out.1 HD.out).mono ?_
        rintro e w5 ⟨rfl, h5⟩
        have HY := Lib.hid h5
        have hd1 : d ≤ 1125899906842624 := h5.a.ok1
        have hd0 : 0 ≤ d := h5.a.ok0
        clear h5 HE
        go_wp2_with fail
        refine (o_after (q : Int) f HY.out.a HI.out.2.1 HF.out).mono ?_
        rintro e w6 ⟨rfl, rfl⟩
        go_wp2_with fail
        refine (o_now HY.out.a).mono ?_
        rintro e w6 ⟨rfl, rfl⟩
        go_wp2_with fail
        refine (o_past d true HY.out.a (decide_eq_true (Int.le_refl _))).mono ?_
        rintro e w6 ⟨rfl, rfl⟩
        go_wp2_with fail
        refine (o_now HY.out.a).mono ?_
        rintro e w6 ⟨rfl, rfl⟩
        go_wp2_with fail
        refine (o_past (d + 1) false HY.out.a (decide_eq_false (by omega))).mono ?_
        rintro e w6 ⟨rfl, rfl⟩
        go_wp2
        go_ret
        exact ⟨rfl, HY.out.a.keep⟩

theorem ClockSums_std (a : Option Addr) (len cap : Nat) (zs : List Int) (a1 : Int) (_wf1 : (Lit.int .i64 a1).wf = true) (a2 : Int) (_wf2 : (Lit.int .i64 a2).wf = true) (w : World) (row : Arr .i64 w a len zs) :
    Calls Try.prog 7 #[.slice a len cap, .int .i64 a1, .int .i64 a2] w fun e w' => e = .returned (.bool true) ∧ Below w.heap.size w w' := sums_law a len cap zs a1 a2 w row
end Go.Proofs.Ythfiepgonjfapaa
