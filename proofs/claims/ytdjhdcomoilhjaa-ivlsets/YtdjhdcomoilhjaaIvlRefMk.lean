/- The document's own Make and Size of layer 6; what a law wants of Build. -/
import Derived.Test.YtdjhdcomoilhjaaIvlBuild
namespace Go.Proofs.Ytdjhdcomoilhjaa
open Go.RowKit

/-- A set comes out: that of the keys that are asked for. -/
def SetOut (w : World) (P : Int → Prop) (N : Nat) (e : Ending) (w' : World) : Prop :=
  ∃ A n c zs, e = .returned (.slice A n c) ∧ Keep w w' ∧ Arg w' A n c zs ∧ IsSet zs P ∧ n ≤ N
theorem build_set {w : World} {A B : Option Addr} {na ca nb cb : Nat} {za zb : List Sp} (kind : Int) (ha : Arg w A na ca za) (hb : Arg w B nb cb zb) (hn : na ≤ 20000) (hm : nb ≤ 20000) (hkd : kind = 0 ∨ kind = 1 ∨ kind = 2 ∨ kind = 3) :
    Calls Try.prog 5 #[.slice A na ca, .slice B nb cb, .int .i64 kind] w (SetOut w (fun k => askB kind za zb k = true) (1 + 2 * (na + nb))) := by
  refine (build_any kind ha hb hn hm hkd).mono ?_
  rintro e w' ⟨A', n', c', zs, rfl, ho, hs, hle, hk⟩
  obtain ⟨hp, hc⟩ := own_prs ho
  have hnil : A' = none → c' = 0 := by
    rcases ho.2 with ⟨e, _⟩ | ⟨g, cap, cur, e, _⟩
    · cases e; exact fun _ => rfl
    · cases e; exact fun h => by cases h
  exact ⟨A', n', c', zs, rfl, hk, ⟨hp, hc, hnil, hs.ok⟩, hs, hle⟩
theorem ask0 {za zb : List Sp} (ha : ∀ s ∈ za, s.ok) (hb : ∀ s ∈ zb, s.ok) (k : Int) : askB 0 za zb k = true ↔ mem za k ∨ mem zb k := by
  unfold askB asked
  have h1 := hasB_iff (zs := za) (k := k)
  have h2 := hasB_iff (zs := zb) (k := k)
  have key : ∀ {zs : List Sp}, (∀ s ∈ zs, s.ok) → mem zs k → keyB k = true := by
    rintro zs hz ⟨s, hs, g1, g2⟩
    obtain ⟨⟨o1, o2⟩, o3, o4⟩ := hz s hs
    unfold keyB
    simp
    omega
  have k1 := key ha
  have k2 := key hb
  rw [← h1] at k1 ⊢
  rw [← h2] at k2 ⊢
  cases h3 : hasB za k <;> cases h4 : hasB zb k <;> simp_all
theorem ask1 {za zb : List Sp} (ha : ∀ s ∈ za, s.ok) (k : Int) : askB 1 za zb k = true ↔ mem za k ∧ mem zb k := by
  unfold askB asked
  have h1 := hasB_iff (zs := za) (k := k)
  have h2 := hasB_iff (zs := zb) (k := k)
  have k1 : mem za k → keyB k = true := by
    rintro ⟨s, hs, g1, g2⟩
    obtain ⟨⟨o1, o2⟩, o3, o4⟩ := ha s hs
    unfold keyB
    simp
    omega
  rw [← h1] at k1 ⊢
  rw [← h2]
  cases h3 : hasB za k <;> cases h4 : hasB zb k <;> simp_all
theorem ask2 {za zb : List Sp} (ha : ∀ s ∈ za, s.ok) (k : Int) : askB 2 za zb k = true ↔ mem za k ∧ ¬ mem zb k := by
  unfold askB asked
  have h1 := hasB_iff (zs := za) (k := k)
  have h2 := hasB_iff (zs := zb) (k := k)
  have k1 : mem za k → keyB k = true := by
    rintro ⟨s, hs, g1, g2⟩
    obtain ⟨⟨o1, o2⟩, o3, o4⟩ := ha s hs
    unfold keyB
    simp
    omega
  rw [← h1] at k1 ⊢
  rw [← h2]
  cases h3 : hasB za k <;> cases h4 : hasB zb k <;> simp_all
theorem ask3 {za zb : List Sp} (k : Int) : askB 3 za zb k = true ↔ isKey k ∧ ¬ mem za k := by
  unfold askB asked
  have h1 := hasB_iff (zs := za) (k := k)
  have h2 : keyB k = true ↔ isKey k := by unfold keyB isKey; simp
  rw [← h1, ← h2]
  cases h3 : hasB za k <;> cases h4 : keyB k <;> simp_all
theorem make_set {w : World} {A : Option Addr} {na ca : Nat} {za : List Sp} (ha : Arg w A na ca za) (hn : na ≤ 20000) :
    Calls Try.prog 32 #[.slice A na ca] w (SetOut w (mem za) (1 + 2 * na)) := by
  have HC := Lib.hid (build_set 0 ha (arg_nil w) hn (by decide) (.inl rfl))
  have HOK := Lib.hid ha.ok
  clear ha
  go_enter Try.func32, Try.ntmps32
  go_wp2_with fail
  go_at_call 5
  refine HC.out.mono ?_
  rintro e w' ⟨A', n', c', zs, rfl, hk, hz, hs, hle⟩
  have HE := Lib.hid (show SetOut w (mem za) (1 + 2 * na) (.returned (.slice A' n' c')) w' from ⟨_, _, _, zs, rfl, hk, hz, hs.congr (fun k => (ask0 HOK.out (by simp) k).trans ⟨fun h => h.elim id (fun h => absurd h (mem_nil k)), .inl⟩), by omega⟩)
  clear hk hz hs hle
  go_wp2
  go_ret
  exact HE.out
set_option maxRecDepth 100000 in
set_option maxHeartbeats 2000000 in
theorem rsize_any {w : World} {A : Option Addr} {n c : Nat} {zs r : List Sp} (h : Arg w A n c zs) (hn : n ≤ 20000) (hr : IsSet r (mem zs)) :
    Calls Try.prog 17 #[.slice A n c] w fun e w' => e = .returned (.int .u64 (szL r)) ∧ Keep w w' := by
  have HC := Lib.hid (make_set h hn)
  have HR := Lib.hid hr
  clear h hr
  go_enter Try.func17, Try.ntmps17
  go_wp2_with fail
  go_at_call 32
  refine HC.out.mono ?_
  rintro e w1 ⟨A1, m, c1, r', rfl, hk1, ha1, hs1, hle⟩
  obtain rfl := hs1.unique HR.out (fun _ => Iff.rfl)
  have HP := Lib.hid ha1.prs
  have HM := Lib.hid ha1.len
  have hm6 : (m : Int) ≤ 100000 := by omega
  clear ha1 hs1 hle HC
  go_wp2_with fail
  go_loopw [4, 5] (fun v i wr => ∃ (j : Nat), j ≤ m ∧ i = .int .i64 j ∧ v = .int .u64 (szL (r'.take j)) ∧ Keep w1 wr) (fun v i _ => m - (intOf i).toNat)
  case atStart => exact ⟨0, Nat.zero_le _, rfl, rfl, Keep.refl _⟩
  case round =>
    obtain ⟨j, hj, rfl, rfl, hk⟩ := hrel
    by_cases hlt : j < m
    · obtain ⟨x, hx⟩ : ∃ x, r'[j]? = some x := ⟨_, List.getElem?_eq_getElem (by rw [HM.out]; exact hlt)⟩
      have hxok := HR.out.ok x (List.mem_of_getElem? hx)
      have hxe := HR.out.rt.1 x (List.mem_of_getElem? hx)
      obtain ⟨b, off, e, hb, c0, c1⟩ := SpS.cells (HP.out.keep hk (Nat.le_refl _)) j x hx
      subst e
      obtain ⟨⟨o1, o2⟩, o3, o4⟩ := hxok
      have hst := szL_take hx
      have t0 := szL_nonneg (HR.out.rt.take j)
      have t1 := szL_le (HR.out.rt.take j) (fun s hs => HR.out.ok s (List.mem_of_mem_take hs))
      have t2 := szL_le (HR.out.rt.take (j + 1)) (fun s hs => HR.out.ok s (List.mem_of_mem_take hs))
      have hw1 : IntKind.u64.wrap (szL (r'.take j) + x.hi) = szL (r'.take j) + x.hi := by rw [IntKind.wrap_u64]; omega
      have hw2 : IntKind.u64.wrap (szL (r'.take j) + x.hi + 1) = szL (r'.take j) + x.hi + 1 := by rw [IntKind.wrap_u64]; omega
      have hw3 : IntKind.u64.wrap (szL (r'.take j) + x.hi + 1 - x.lo) = szL (r'.take (j + 1)) := by rw [IntKind.wrap_u64, hst]; omega
      have hjm : (j : Int) < (m : Int) := by omega
      have HK := Lib.hid hk
      clear hx hst t0 t1 t2 hk
      obtain ⟨S1, hS1⟩ : ∃ S1, szL (r'.take (j + 1)) = S1 := ⟨_, rfl⟩
      rw [hS1] at hw3
      have HS1 := Lib.hid hS1
      clear hS1
      go_wp2_with fail
      go_quiet (fail)
      have HK' := Lib.hid (HK.out.trans ((Keep.refl wr).drewN nq))
      go_wp2_with fail
      go_roundw
      case rel => exact ⟨j + 1, hlt, by go_num, by rw [HS1.out], HK'.out⟩
      case measure => simp [intOf]; omega
    · obtain rfl : j = m := by omega
      have hf : r'.take j = r' := List.take_of_length_le (by rw [HM.out]; exact Nat.le_refl _)
      have HF := Lib.hid hf
      clear hf
      go_wp2_with fail
      go_ret
      exact ⟨by rw [HF.out]; rfl, hk1.trans hk⟩
end Go.Proofs.Ytdjhdcomoilhjaa
