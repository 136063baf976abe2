/- The document's own Make and Size of layer 6; what a law wants of Build. -/
import Derived.Test.YtmdhbbibghpijaaDoorIvlBuild
namespace Go.Proofs.YtmdhbbibghpijaaDoor
open Go.RowKit

/-- A set comes out: that of the keys that are asked for. -/
def SetOut (w : World) (P : Int → Prop) (N : Nat) (e : Ending) (w' : World) : Prop :=
  ∃ A n c zs, e = .returned (.slice A n c) ∧ Keep w w' ∧ Arg w' A n c zs ∧ IsSet zs P ∧ n ≤ N
theorem build_set {w : World} {A B : Option Addr} {na ca nb cb : Nat} {za zb : List Sp} (kind : Int) (ha : Arg w A na ca za) (hb : Arg w B nb cb zb) (hn : na ≤ 20000) (hm : nb ≤ 20000) (hkd : kind = 0 ∨ kind = 1 ∨ kind = 2 ∨ kind = 3) :
    Calls Tryd.prog 30 #[.slice A na ca, .slice B nb cb, .int .i64 kind] w (SetOut w (fun k => askB kind za zb k = true) (1 + 2 * (na + nb))) := by
  refine (build_any kind ha hb hn hm hkd).mono ?_
  rintro e w' ⟨A', n', c', zs, rfl, ho, hs, hle, hk⟩
  obtain ⟨hp, hc⟩ := own_prs ho
  have hnil : A' = none → c' = 0 := by
    rcases ho.2 with ⟨e, _⟩ | ⟨g, cap, cur, e, _⟩
    · cases e; exact fun _ => rfl
    · cases e; exact fun h => by cases h
  exact ⟨A', n', c', zs, rfl, hk, ⟨hp, hc, hnil, hs.ok⟩, hs, hle⟩
theorem ask0 {za zb : List Sp} (ha : ∀ s ∈ za, s.ok) (hb : ∀ s ∈ zb, s.ok) (k : Int) : askB 0 za zb k = true ↔ mem za k ∨ mem zb k := by
  unfold askB asked
  have h1 := hasB_iff (zs := za) (k := k)
  have h2 := hasB_iff (zs := zb) (k := k)
  have key : ∀ {zs : List Sp}, (∀ s ∈ zs, s.ok) → mem zs k → keyB k = true := by
    rintro zs hz ⟨s, hs, g1, g2⟩
    obtain ⟨⟨o1, o2⟩, o3, o4⟩ := hz s hs
    unfold keyB
    simp
    omega
  have k1 := key ha
  have k2 := key hb
  rw [← h1] at k1 ⊢
  rw [← h2] at k2 ⊢
  cases h3 : hasB za k <;> cases h4 : hasB zb k <;> simp_all
theorem ask1 {za zb : List Sp} (ha : ∀ s ∈ za, s.ok) (k : Int) : askB 1 za zb k = true ↔ mem za k ∧ mem zb k := by
  unfold askB asked
  have h1 := hasB_iff (zs := za) (k := k)
  have h2 := hasB_iff (zs := zb) (k := k)
  have k1 : mem za k → keyB k = true := by
    rintro ⟨s, hs, g1, g2⟩
    obtain ⟨⟨o1, o2⟩, o3, o4⟩ := ha s hs
    unfold keyB
    simp
    omega
  rw [← h1] at k1 ⊢
  rw [← h2]
  cases h3 : hasB za k <;> cases h4 : hasB zb k <;> simp_all
theorem ask2 {za zb : List Sp} (ha : ∀ s ∈ za, s.ok) (k : Int) : askB 2 za zb k = true ↔ mem za k ∧ ¬ mem zb k := by
  unfold askB asked
  have h1 := hasB_iff (zs := za) (k := k)
  have h2 := hasB_iff (zs := zb) (k := k)
  have k1 : mem za k → keyB k = true := by
    rintro ⟨s, hs, g1, g2⟩
    obtain ⟨⟨o1, o2⟩, o3, o4⟩ := ha s hs
    unfold keyB
    simp
    omega
  rw [← h1] at k1 ⊢
  rw [← h2]
  cases h3 : hasB za k <;> cases h4 : hasB zb k <;> simp_all
theorem ask3 {za zb : List Sp} (k : Int) : askB 3 za zb k = true ↔ isKey k ∧ ¬ mem za k := by
  unfold askB asked
  have h1 := hasB_iff (zs := za) (k := k)
  have h2 : keyB k = true ↔ isKey k := by unfold keyB isKey; simp
  rw [← h1, ← h2]
  cases h3 : hasB za k <;> cases h4 : keyB k <;> simp_all
theorem make_set {w : World} {A : Option Addr} {na ca : Nat} {za : List Sp} (ha : Arg w A na ca za) (hn : na ≤ 20000) :
    Calls Tryd.prog 18 #[.slice A na ca] w (SetOut w (mem za) (1 + 2 * na)) := by
  have HC := Lib.hid (build_set 0 ha (arg_nil w) hn (by decide) (.inl rfl))
  have HOK := Lib.hid ha.ok
  clear ha
  go_enter Tryd.func18, Tryd.ntmps18
  go_wp2_with fail
  go_at_call 30
  refine HC.out.mono ?_
  rintro e w' ⟨A', n', c', zs, rfl, hk, hz, hs, hle⟩
  have HE := Lib.hid (show SetOut w (mem za) (1 + 2 * na) (.returned (.slice A' n' c')) w' from ⟨_, _, _, zs, rfl, hk, hz, hs.congr (fun k => (ask0 HOK.out (by simp) k).trans ⟨fun h => h.elim id (fun h => absurd h (mem_nil k)), .inl⟩), by omega⟩)
  clear hk hz hs hle
  go_wp2
  go_ret
  exact HE.out
end Go.Proofs.YtmdhbbibghpijaaDoor
