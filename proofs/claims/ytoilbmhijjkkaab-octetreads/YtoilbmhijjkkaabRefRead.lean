/- The document's Reader: Raw, Get, Num; Join of one row of bytes. -/
import Derived.Test.YtoilbmhijjkkaabRefPut
import Derived.Test.YtoilbmhijjkkaabRefSign
import Derived.Test.YtoilbmhijjkkaabOctMath
import Derived.Deep.RegionWith
namespace Go.Proofs.Ytoilbmhijjkkaab
open Go.RowKit

set_option maxRecDepth 100000 in
set_option maxHeartbeats 1000000 in
theorem rrawr_bad (A : Option Addr) (n c : Nat) (bad : Bool) (k : Int) (w : World) (h : bad = true ∨ (n : Int) < max k 0) :
    Calls Try.prog 24 #[.agg #[.slice A n c, .bool bad], .int .i64 k] w fun e w' => e = .returned (.tuple #[.agg #[.slice A n c, .bool true], .slice none 0 0]) ∧ Keep w w' := by
  have hd : bad = true ∨ (bad = false ∧ (n : Int) < max k 0) := by
    cases bad
    · exact .inr ⟨rfl, by simpa using h⟩
    · exact .inl rfl
  clear h
  rcases hd with rfl | ⟨rfl, h⟩
  · rcases Int.lt_or_le k 0 with hk | hk
    all_goals
      go_enter Try.func24, Try.ntmps24
      go_wp2
      refine bodyPost_ret (v := .tuple #[.agg #[.slice A n c, .bool true], .slice none 0 0]) (by simp [results, Try.results24, go_sem]) rfl ⟨rfl, ?_⟩
      exact ((Keep.refl w).alloc _).alloc _
  · have hk : 0 ≤ k := by omega
    have hn : (n : Int) < k := by omega
    clear h
    go_enter Try.func24, Try.ntmps24
    go_wp2
    refine bodyPost_ret (v := .tuple #[.agg #[.slice A n c, .bool true], .slice none 0 0]) (by simp [results, Try.results24, go_sem]) rfl ⟨rfl, ?_⟩
    exact ((Keep.refl w).alloc _).alloc _

/-- The bytes ys, from A on, below B: what the document's reader holds. -/
def Src (w : World) (B : Nat) (A : Option Addr) (c : Nat) (ys : List Int) : Prop := Lies w B A ys.length (vals .u8 ys) ∧ ys.length ≤ c ∧ (A = none → c = 0)

theorem Src.part_take {w : World} {B b off c K : Nat} {ys : List Int} (hl : Lies w B (some ⟨b, off, none⟩) ys.length (vals .u8 ys)) (hc : ys.length ≤ c) (h : K ≤ ys.length) : Src w B (some ⟨b, off, none⟩) c (ys.take K) := by
  have := hl.part 0 K (by omega)
  rw [vals_part, List.drop_zero, Nat.add_zero] at this
  have e : (ys.take K).length = K := by simp; omega
  exact ⟨by rw [e]; exact this, by omega, fun h => by cases h⟩
theorem Src.part_drop {w : World} {B b off c K : Nat} {ys : List Int} (hl : Lies w B (some ⟨b, off, none⟩) ys.length (vals .u8 ys)) (hc : ys.length ≤ c) (h : K ≤ ys.length) : Src w B (some ⟨b, off + K, none⟩) (c - K) (ys.drop K) := by
  have := hl.part K (ys.length - K) (by omega)
  have e : (ys.drop K).length = ys.length - K := by simp
  rw [vals_part, List.take_of_length_le (by omega)] at this
  exact ⟨by rw [e]; exact this, by omega, fun h => by cases h⟩

theorem Src.back {w w' : World} {B c : Nat} {A : Option Addr} {ys : List Int} (h : Src w' B A c ys) (hk : Keep w w') (hB : B ≤ w.heap.size) : Src w B A c ys :=
  ⟨⟨h.1.1, fun hn => by
    obtain ⟨b, off, e, hb, hc⟩ := h.1.2 hn
    exact ⟨b, off, e, hb, fun k hk' => (hk.cell (p := ⟨b, off + k, none⟩) (Nat.lt_of_lt_of_le hb hB)).symm.trans (hc k hk')⟩⟩, h.2⟩
theorem Src.forth {w w' : World} {B c : Nat} {A : Option Addr} {ys : List Int} (h : Src w B A c ys) (hk : Keep w w') (hB : B ≤ w.heap.size) : Src w' B A c ys := ⟨h.1.below (Below.mono hk hB), h.2⟩

/-- Raw when there are enough: the piece, and what is left. -/
def RawR (w : World) (B K : Nat) (ys : List Int) (e : Ending) (w' : World) : Prop :=
  ∃ A1 c1 A2 c2, e = .returned (.tuple #[.agg #[.slice A2 (ys.drop K).length c2, .bool false], .slice A1 (ys.take K).length c1]) ∧ Src w B A1 c1 (ys.take K) ∧ Src w B A2 c2 (ys.drop K) ∧ Keep w w'

set_option maxRecDepth 100000 in
set_option maxHeartbeats 1000000 in
theorem rrawr_ok (A : Option Addr) (c : Nat) (ys : List Int) (B : Nat) (k : Int) (K : Nat) (w : World) (hs : Src w B A c ys) (hK : max k 0 = (K : Int)) (h : K ≤ ys.length) :
    Calls Try.prog 24 #[.agg #[.slice A ys.length c, .bool false], .int .i64 k] w (RawR w B K ys) := by
  obtain ⟨hl, hc, hn⟩ := hs
  have e1 : (ys.drop K).length = ys.length - K := by simp
  have e2 : (ys.take K).length = K := by simp; omega
  unfold RawR
  rw [e1, e2]
  have HE1 := Lib.hid e1
  have HE2 := Lib.hid e2
  clear e1 e2
  have hd : decide ((ys.length : Int) < (K : Int)) = false := by simp; omega
  rcases A with _ | ⟨b, off, spot⟩
  · obtain rfl := hn rfl
    have h0 : ys.length = 0 := by omega
    obtain rfl : K = 0 := by omega
    obtain rfl : ys = [] := List.eq_nil_of_length_eq_zero h0
    clear h0 hd hl
    have hk : ¬ (0 : Int) < k := by omega
    rcases Int.lt_or_le k 0 with hk0 | hk0
    · go_enter Try.func24, Try.ntmps24
      go_wp2
      refine bodyPost_ret (v := .tuple #[.agg #[.slice none 0 0, .bool false], .slice none 0 0]) (by simp [results, Try.results24, go_sem]) rfl ⟨none, 0, none, 0, rfl, ⟨Lies.nil _ _ _, Nat.le_refl _, fun _ => rfl⟩, ⟨Lies.nil _ _ _, Nat.le_refl _, fun _ => rfl⟩, ?_⟩
      exact ((Keep.refl w).alloc _).alloc _
    · obtain rfl : k = 0 := by omega
      clear hk hk0 hK
      go_enter Try.func24, Try.ntmps24
      go_wp2
      refine bodyPost_ret (v := .tuple #[.agg #[.slice none 0 0, .bool false], .slice none 0 0]) (by simp [results, Try.results24, go_sem]) rfl ⟨none, 0, none, 0, rfl, ⟨Lies.nil _ _ _, Nat.le_refl _, fun _ => rfl⟩, ⟨Lies.nil _ _ _, Nat.le_refl _, fun _ => rfl⟩, ?_⟩
      exact ((Keep.refl w).alloc _).alloc _
  · have hkk : k < 0 ∧ K = 0 ∨ k = (K : Int) := by omega
    clear hn
    have hcK : K ≤ c := by omega
    rcases Nat.eq_zero_or_pos ys.length with h0 | h0
    · obtain rfl : K = 0 := by omega
      obtain rfl : ys = [] := List.eq_nil_of_length_eq_zero h0
      clear h0 hd hl h hK
      rcases hkk with ⟨hk0, -⟩ | rfl
      all_goals
        go_enter Try.func24, Try.ntmps24
        go_wp2
        refine bodyPost_ret (v := .tuple #[.agg #[.slice (some ⟨b, off, spot⟩) 0 c, .bool false], .slice (some ⟨b, off, spot⟩) 0 c]) (by simp [results, Try.results24, go_sem]) rfl ⟨_, c, _, c, rfl, ⟨Lies.nil _ _ _, Nat.zero_le _, fun h => by cases h⟩, ⟨Lies.nil _ _ _, Nat.zero_le _, fun h => by cases h⟩, ?_⟩
        exact ((Keep.refl w).alloc _).alloc _
    · have hspot : spot = none := by
        obtain ⟨_, _, e, _⟩ := hl.2 h0
        injection e with e; injection e
      subst hspot
      have HL := Lib.hid hl
      clear hl hK
      rcases hkk with ⟨hk0, rfl⟩ | rfl
      · go_enter Try.func24, Try.ntmps24
        go_wp2
        refine bodyPost_ret (v := .tuple #[.agg #[.slice (some ⟨b, off, none⟩) ys.length c, .bool false], .slice (some ⟨b, off, none⟩) 0 c]) (by simp [results, Try.results24, go_sem]) rfl ⟨_, c, _, c, rfl, ⟨Lies.nil _ _ _, Nat.zero_le _, fun h => by cases h⟩, ⟨HL.out, hc, fun h => by cases h⟩, ?_⟩
        exact ((Keep.refl w).alloc _).alloc _
      · have HP1 := Lib.hid (Src.part_take HL.out hc h)
        have HP2 := Lib.hid (Src.part_drop HL.out hc h)
        by_cases hcc : c = K
        · have hyl : ys.length = K := by omega
          have HD0 := Lib.hid (show ys.drop K = [] from List.drop_eq_nil_of_le (by omega))
          subst hcc
          clear hd
          go_enter Try.func24, Try.ntmps24
          go_wp2
          refine bodyPost_ret (v := .tuple #[.agg #[.slice (some ⟨b, off, none⟩) 0 0, .bool false], .slice (some ⟨b, off, none⟩) c c]) (by simp [results, Try.results24, go_sem]) rfl ⟨some ⟨b, off, none⟩, c, some ⟨b, off, none⟩, 0, ?_, HP1.out, ?_, ?_⟩
          · rw [hyl, Nat.sub_self]
          · rw [HD0.out]; exact ⟨Lies.nil _ _ _, Nat.zero_le _, fun h => by cases h⟩
          · exact ((Keep.refl w).alloc _).alloc _
        · go_enter Try.func24, Try.ntmps24
          go_wp2
          refine bodyPost_ret (v := .tuple #[.agg #[.slice (some ⟨b, off + K, none⟩) (ys.length - K) (c - K), .bool false], .slice (some ⟨b, off, none⟩) K c]) (by simp [results, Try.results24, go_sem]) rfl ⟨_, _, _, _, rfl, HP1.out, HP2.out, ?_⟩
          exact ((Keep.refl w).alloc _).alloc _
end Go.Proofs.Ytoilbmhijjkkaab
