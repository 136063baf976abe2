/- ClockLeast: the least time is 0 just if all are; else it is one of them, and none that there is is less; in whichever order. -/
import Derived.Test.YthfiepgonjfapaaClkAt
import Derived.Test.YthfiepgonjfapaaRowL
namespace Go.Proofs.Ythfiepgonjfapaa
open Go.RowKit

/-- A time as it counts. -/
def nrm (z : Int) : Int := if z < 0 then 1 else z
theorem nrm_nonneg (z : Int) : 0 ≤ nrm z := by unfold nrm; split <;> omega
/-- m is the least time of these. -/
def IsLeast (P : Int → Prop) (m : Int) : Prop := (m = 0 ∧ ∀ z, P z → nrm z = 0) ∨ (0 < m ∧ (∃ z, P z ∧ nrm z = m) ∧ ∀ z, P z → nrm z ≠ 0 → m ≤ nrm z)
theorem lst_eq (o t : Int) : lst o t = if nrm t = 0 then o else if o = 0 ∨ nrm t < o then nrm t else o := by
  unfold lst nrm
  repeat (split <;> try omega)
theorem isLeast_step {P : Int → Prop} {o : Int} (v : Int) (h : IsLeast P o) : IsLeast (fun z => P z ∨ z = v) (lst o v) := by
  have hn := nrm_nonneg v
  rw [lst_eq]
  by_cases h0 : nrm v = 0
  · rw [if_pos h0]
    rcases h with ⟨e, h⟩ | ⟨hp, ⟨z, hz, e⟩, h⟩
    · exact .inl ⟨e, fun z hz => by rcases hz with hz | rfl; exact h z hz; exact h0⟩
    · exact .inr ⟨hp, ⟨z, .inl hz, e⟩, fun z hz hz0 => by rcases hz with hz | rfl; exact h z hz hz0; exact absurd h0 hz0⟩
  · rw [if_neg h0]
    rcases h with ⟨e, h⟩ | ⟨hp, ⟨z, hz, e⟩, h⟩
    · rw [if_pos (.inl e)]
      exact .inr ⟨by omega, ⟨v, .inr rfl, rfl⟩, fun z hz hz0 => by rcases hz with hz | rfl; exact absurd (h z hz) hz0; exact Int.le_refl _⟩
    · by_cases hl : nrm v < o
      · rw [if_pos (.inr hl)]
        exact .inr ⟨by omega, ⟨v, .inr rfl, rfl⟩, fun y hy hy0 => by rcases hy with hy | rfl; exact Int.le_of_lt (Int.lt_of_lt_of_le hl (h y hy hy0)); exact Int.le_refl _⟩
      · rw [if_neg (by omega)]
        exact .inr ⟨hp, ⟨z, .inl hz, e⟩, fun y hy hy0 => by rcases hy with hy | rfl; exact h y hy hy0; omega⟩
theorem IsLeast.congr {P Q : Int → Prop} {m : Int} (h : IsLeast P m) (e : ∀ z, P z ↔ Q z) : IsLeast Q m := by
  have : P = Q := funext fun z => propext (e z)
  rwa [← this]
theorem foldl_least (zs : List Int) : ∀ (P : Int → Prop) (o : Int), IsLeast P o → IsLeast (fun z => P z ∨ z ∈ zs) (zs.foldl lst o) := by
  induction zs with
  | nil => intro P o h; exact h.congr (fun z => by simp)
  | cons v zs ih =>
    intro P o h
    exact (ih _ _ (isLeast_step v h)).congr (fun z => by simp [or_assoc])
theorem least_spec (zs : List Int) : IsLeast (fun z => z ∈ zs) (least zs) := by
  have := foldl_least zs (fun _ => False) 0 (.inl ⟨rfl, fun _ h => h.elim⟩)
  exact this.congr (fun z => by simp)
theorem IsLeast.unique {P : Int → Prop} {m n : Int} (h : IsLeast P m) (h' : IsLeast P n) : m = n := by
  rcases h with ⟨e, h⟩ | ⟨hp, ⟨z, hz, e⟩, h⟩ <;> rcases h' with ⟨e', h'⟩ | ⟨hp', ⟨z', hz', e'⟩, h'⟩
  · omega
  · have := h z' hz'; omega
  · have := h' z hz; omega
  · have h1 := h z' hz' (by omega)
    have h2 := h' z hz (by omega)
    omega
theorem least_rev (zs : List Int) : least zs.reverse = least zs := ((least_spec zs.reverse).congr (fun z => by simp)).unique (least_spec zs)
/-- Is it found, is there some. -/
def fnd (n : Int) (zs : List Int) : Bool := zs.any fun z => nrm z == n
def som (zs : List Int) : Bool := zs.any fun z => nrm z != 0
theorem least_end (zs : List Int) : (least zs != 0) = som zs ∧ (!som zs || fnd (least zs) zs) = true := by
  rcases least_spec zs with ⟨e, h⟩ | ⟨hp, ⟨z, hz, e⟩, h⟩
  · have hs : som zs = false := by
      unfold som
      rw [List.any_eq_false]
      intro z hz
      simp [h z hz]
    rw [hs, e]
    exact ⟨rfl, rfl⟩
  · have hs : som zs = true := by
      unfold som
      rw [List.any_eq_true]
      exact ⟨z, hz, by rw [e]; simp; omega⟩
    have hf : fnd (least zs) zs = true := by
      unfold fnd
      rw [List.any_eq_true]
      exact ⟨z, hz, by rw [e]; simp⟩
    rw [hs, hf]
    exact ⟨by simp; omega, rfl⟩
theorem drop_cons {zs : List Int} {j : Nat} {v : Int} (h : zs[j]? = some v) : zs.drop j = v :: zs.drop (j + 1) := by
  obtain ⟨hl, e⟩ := List.getElem?_eq_some_iff.1 h
  rw [List.drop_eq_getElem_cons hl, e]

set_option maxRecDepth 100000 in
set_option maxHeartbeats 4000000 in
theorem least_law (A : Option Addr) (len cap : Nat) (zs : List Int) (w : World) (row : Arr .i64 w A len zs) :
    Calls Try.prog 5 #[.slice A len cap] w fun e w' => e = .returned (.bool true) ∧ Keep w w' := by
  obtain ⟨hml, hL, -⟩ := row
  unfold maxLen at hml
  by_cases h3 : 100 < len
  · clear hL
    go_enter Try.func5, Try.ntmps5
    go_wp2_with (go_at_call 8; refine (alive_any _).mono ?_; rintro e w1 ⟨rfl, hk1⟩)
    go_ret
    exact ⟨rfl, hk1⟩
  · obtain ⟨i0, hi, hz0, hz1, hz2⟩ := info_parts infoI64
    have hl : zs.length = len := by have := hL.1; rwa [vals_length] at this
    have HLN := Lib.hid hl
    have HL := Lib.hid hL
    have hl3 : (len : Int) ≤ 100 := by omega
    obtain ⟨n, hn⟩ : ∃ n, least zs = n := ⟨_, rfl⟩
    have HN := Lib.hid hn
    have hend := least_end zs
    have hspec := least_spec zs
    rw [hn] at hend hspec
    have HE := Lib.hid hend
    have HS := Lib.hid hspec
    clear hl hL hml hn hend hspec
    go_enter Try.func5, Try.ntmps5
    go_wp2_with fail
    go_at_call 8
    refine (alive_any _).mono ?_
    rintro e w1 ⟨rfl, hk1⟩
    have HK := Lib.hid hk1
    clear hk1
    go_wp2_with fail
    refine (least_of A len cap zs n w1 (HL.out.up HK.out) (by omega) HN.out).mono ?_
    rintro e w2 ⟨rfl, rfl⟩
    go_wp2_with fail
    go_loopw [4, 5, 6, 7] (fun s f m i wr => ∃ (r j : Nat) (B : Option Addr) (c : Nat) (x : Int), r + j = len ∧ x + 1 = r ∧ i = .int .i64 x ∧ s = .slice B j c ∧ f = .bool (fnd n (zs.drop r)) ∧ m = .bool (som (zs.drop r)) ∧ OwnL w1.heap.size w1 wr B j c (zs.drop r).reverse) (fun s f m i _ => (intOf i + 1).toNat)
    case atStart =>
      have e : zs.drop len = [] := List.drop_of_length_le (by rw [HLN.out]; exact Nat.le_refl _)
      exact ⟨len, 0, _, 0, _, by omega, by omega, rfl, rfl, by rw [e]; rfl, by rw [e]; rfl, by rw [e]; exact OwnL.new w1⟩
    case round =>
      obtain ⟨r, j, B, c, x, hj, hx, rfl, rfl, rfl, rfl, hO⟩ := hrel
      have HO := Lib.hid hO
      clear hO
      cases r with
      | zero =>
        obtain rfl : j = len := by omega
        obtain rfl : x = -1 := by omega
        rw [List.drop_zero] at HO
        rw [List.drop_zero]
        obtain ⟨e1, e2⟩ := HE.out
        generalize som zs = bs at *
        generalize fnd n zs = bf at *
        clear hj hx
        have HL4 := Lib.hid (least_of B j c zs.reverse n wr HO.out.lies (by omega) (by rw [least_rev]; exact HN.out))
        cases bs with
        | false =>
          have hn0 : n = 0 := by simpa using e1
          subst hn0
          clear e1 e2
          go_wp2_with fail
          refine HL4.out.mono ?_
          rintro e w2 ⟨rfl, rfl⟩
          go_wp2
          go_ret
          exact ⟨rfl, HK.out.trans HO.out.keep⟩
        | true =>
          have hb : bf = true := by simpa using e2
          subst hb
          clear e2
          go_wp2_with fail
          refine HL4.out.mono ?_
          rintro e w2 ⟨rfl, rfl⟩
          go_wp2
          go_ret
          exact ⟨rfl, HK.out.trans HO.out.keep⟩
      | succ r =>
        have hlt : r < len := by omega
        obtain rfl : x = (r : Int) := by omega
        obtain ⟨v, hv⟩ : ∃ v, zs[r]? = some v := ⟨_, List.getElem?_eq_getElem (by rw [HLN.out]; exact hlt)⟩
        obtain ⟨b1, off, e⟩ := row_addr HL.out (by omega)
        subst e
        have c0 := row_at (HL.out.up (HK.out.trans HO.out.keep)) hlt hv
        have hrm : (r : Int) < (len : Int) := by omega
        have HD := Lib.hid (drop_cons hv)
        have hjn : j + 1 + r = len := by omega
        have HJ := Lib.hid hjn
        have hj1 : j + 1 ≤ 100 := by omega
        have hno : nrm v ≠ 0 → decide (nrm v < n) = false := by
          intro h0
          have := nrm_nonneg v
          rcases HS.out with ⟨e, h⟩ | ⟨hp, -, h⟩
          · exact decide_eq_false (by omega)
          · have := h v (List.mem_of_getElem? hv) h0
            exact decide_eq_false (by omega)
        have HF := Lib.hid (show fnd n (zs.drop r) = ((nrm v == n) || fnd n (zs.drop (r + 1))) by rw [HD.out]; rfl)
        have HM := Lib.hid (show som (zs.drop r) = ((nrm v != 0) || som (zs.drop (r + 1))) by rw [HD.out]; rfl)
        have HR := Lib.hid (show (zs.drop r).reverse = (zs.drop (r + 1)).reverse ++ [v] by rw [HD.out, List.reverse_cons])
        have hs := HO.out.keep.size
        clear hv hjn hj hx HD
        generalize fnd n (zs.drop (r + 1)) = bf at *
        generalize som (zs.drop (r + 1)) = bm at *
        rcases (show v < 0 ∨ v = 0 ∨ 0 < v by omega) with hneg | rfl | hpos
        · have hnv : nrm v = 1 := if_pos hneg
          rw [hnv] at hno HF HM
          have hno2 := hno (by decide)
          obtain ⟨bq, hq⟩ : ∃ bq, ((1 : Int) == n) = bq := ⟨_, rfl⟩
          rw [hq] at HF
          clear hno hnv
          cases bf <;> cases bm
          all_goals
            (go_wp2_with (at_builtin; refine wpList_append_from rfl _ _ 22 rfl w1.heap.size 2 i0 (.int .i64 0) 8 Try.underlying22 hi hz0 hz1 hz2 rfl _ j _ rfl (HO.out.row.alloc _) _ (some ⟨wr.heap.size, 0, none⟩) 1 1 [.int .i64 v] rfl (one_lies _ _ _) (fun h => by cases h) (by simp [Value.oneCell']) (by unfold maxLen; omega) (by omega) (by simp; omega) ?_; intro A5 c5 w5 hown5 hgrow5 _)
             have hO5 := HO.out.grown _ hown5 hgrow5
             rw [← HR.out] at hO5
             go_wp2_with fail
             go_roundw
             case rel => exact ⟨r, j + 1, A5, c5, (r : Int) - 1, by have := HJ.out; omega, by omega, by go_num, rfl, by rw [HF.out]; simp, by rw [HM.out]; simp, hO5⟩
             case measure => simp [intOf])
        · rw [show nrm 0 = 0 from rfl] at HF HM
          obtain ⟨bq, hq⟩ : ∃ bq, ((0 : Int) == n) = bq := ⟨_, rfl⟩
          rw [hq] at HF
          clear hno
          cases bf <;> cases bm
          all_goals
            (go_wp2_with (at_builtin; refine wpList_append_from rfl _ _ 22 rfl w1.heap.size 2 i0 (.int .i64 0) 8 Try.underlying22 hi hz0 hz1 hz2 rfl _ j _ rfl (HO.out.row.alloc _) _ (some ⟨wr.heap.size, 0, none⟩) 1 1 [.int .i64 0] rfl (one_lies _ _ _) (fun h => by cases h) (by simp [Value.oneCell']) (by unfold maxLen; omega) (by omega) (by simp; omega) ?_; intro A5 c5 w5 hown5 hgrow5 _)
             have hO5 := HO.out.grown _ hown5 hgrow5
             rw [← HR.out] at hO5
             go_wp2_with fail
             go_roundw
             case rel => exact ⟨r, j + 1, A5, c5, (r : Int) - 1, by have := HJ.out; omega, by omega, by go_num, rfl, by rw [HF.out]; simp, by rw [HM.out]; simp, hO5⟩
             case measure => simp [intOf])
        · have hnv : nrm v = v := if_neg (by omega)
          rw [hnv] at hno HF HM
          have hv0 : (v == 0) = false := by simp; omega
          have hv1 : (v != 0) = true := by simp; omega
          have hno2 := hno (by omega)
          obtain ⟨bq, hq⟩ : ∃ bq, (v == n) = bq := ⟨_, rfl⟩
          rw [hq] at HF
          rw [hv1] at HM
          clear hno hnv
          cases bf <;> cases bm
          all_goals
            (go_wp2_with (at_builtin; refine wpList_append_from rfl _ _ 22 rfl w1.heap.size 2 i0 (.int .i64 0) 8 Try.underlying22 hi hz0 hz1 hz2 rfl _ j _ rfl (HO.out.row.alloc _) _ (some ⟨wr.heap.size, 0, none⟩) 1 1 [.int .i64 v] rfl (one_lies _ _ _) (fun h => by cases h) (by simp [Value.oneCell']) (by unfold maxLen; omega) (by omega) (by simp; omega) ?_; intro A5 c5 w5 hown5 hgrow5 _)
             have hO5 := HO.out.grown _ hown5 hgrow5
             rw [← HR.out] at hO5
             go_wp2_with fail
             go_roundw
             case rel => exact ⟨r, j + 1, A5, c5, (r : Int) - 1, by have := HJ.out; omega, by omega, by go_num, rfl, by rw [HF.out]; simp, by rw [HM.out]; simp, hO5⟩
             case measure => simp [intOf])

theorem ClockLeast_std (a : Option Addr) (len cap : Nat) (zs : List Int) (w : World) (row : Arr .i64 w a len zs) :
    Calls Try.prog 5 #[.slice a len cap] w fun e w' => e = .returned (.bool true) ∧ Below w.heap.size w w' := least_law a len cap zs w row
end Go.Proofs.Ythfiepgonjfapaa
