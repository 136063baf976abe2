/- slices.Grow of nothing and slices.Concat of two, at spans; ivl.Union, Minus, Within. -/
import Derived.Test.YtmdhbbibghpijaaDoorIvlMeet2
import Derived.Lib.AppendZeros
namespace Go.Proofs.YtmdhbbibghpijaaDoor
open Go.RowKit

theorem zeros_size (cs : Array Value) (n : Nat) : (Builtin.zeroCells cs n).size = n * cs.size := by
  unfold Builtin.zeroCells
  simp
set_option maxRecDepth 100000 in
set_option maxHeartbeats 1000000 in
theorem grow_nil (n : Nat) (w : World) (hn : n ≤ 200000) :
    Calls Tryd.prog 74 #[.slice none 0 0, .int .i64 n] w fun e w' => ∃ A c, e = .returned (.slice A 0 c) ∧ Own w' w.heap.size A 0 c [] ∧ Keep w w' := by
  obtain ⟨i0, hi, hz0, hz1, hz2⟩ := info_parts infoSp
  by_cases h0 : n = 0
  · subst h0
    go_enter Tryd.func74, Tryd.ntmps74
    go_wp2
    go_ret
    exact ⟨none, 0, rfl, ⟨by simp [prc], .inl ⟨rfl, rfl⟩⟩, Keep.refl _⟩
  · have hpos : 0 < n := by omega
    have hni : (0 : Int) < (n : Int) := by omega
    have hnb : (n : Int) ≤ 200000 := by omega
    have hrz := fun ty => Lib.run_append_nil_zeros (P := Tryd.prog) w 32 3 ty 37 i0 (.agg #[.int .u32 0, .int .u32 0]) .i64 .i64 Tryd.underlying32 Tryd.underlying3 hi hz0 n hpos (by omega) (by omega) (by rw [hz2]; omega)
    have hG1 : n ≤ grownCap w n 0 37 := grownCap_ge w _ _ _
    have hG2 : grownCap w n 0 37 ≤ maxLen := grownCap_le_maxLen w n 0 37 (by unfold maxLen; omega)
    generalize grownCap w n 0 37 = G at *
    have hs : (Builtin.zeroCells (Value.agg #[.int .u32 0, .int .u32 0]).cells n ++ Builtin.zeroCells (Value.agg #[.int .u32 0, .int .u32 0]).cells (G - n)).size = G * 2 := by
      rw [Array.size_append, zeros_size, zeros_size]
      show n * 2 + (G - n) * 2 = G * 2
      omega
    have hown := World.ownsRow_made (base := w.heap.size) (e := 37) (size := 2) w.drew (Builtin.zeroCells (Value.agg #[.int .u32 0, .int .u32 0]).cells n ++ Builtin.zeroCells (Value.agg #[.int .u32 0, .int .u32 0]).cells (G - n)) G (Nat.le_refl _) hG2 hs
    have HOWN := Lib.hid hown
    generalize Builtin.zeroCells (Value.agg #[.int .u32 0, .int .u32 0]).cells n ++ Builtin.zeroCells (Value.agg #[.int .u32 0, .int .u32 0]).cells (G - n) = cur at *
    have hG3 : (G : Int) ≤ 9223372036854775807 := by unfold maxLen at hG2; omega
    clear hown hs hG2 hG1
    go_enter Tryd.func74, Tryd.ntmps74
    go_wp2_with (at_builtin; refine Lib.wpList_append_run _ rfl _ _ _ _ rfl _ _ rfl rfl _ _ (hrz _) ?_)
    go_ret
    exact ⟨_, G, rfl, HOWN.out, ((Keep.refl w).drew).alloc _⟩

set_option maxRecDepth 100000 in
set_option maxHeartbeats 4000000 in
/-- Two, one behind the other. -/
theorem concat_two (p : Nat) (A : Option Addr) (n c : Nat) (us : List Sp) (B : Option Addr) (n2 c2 : Nat) (vs : List Sp) (w : World) (h : Arg w A n c us) (h2 : Arg w B n2 c2 vs) (hn : n ≤ 50000) (hn2 : n2 ≤ 50000)
    (p0 : w.cell? ⟨p, 0, none⟩ = some (.slice A n c)) (p1 : w.cell? ⟨p, 1, none⟩ = some (.slice B n2 c2)) (hp : p < w.heap.size) :
    Calls Tryd.prog 59 #[.slice (some ⟨p, 0, none⟩) 2 2] w fun e w' => ∃ A' c', e = .returned (.slice A' (n + n2) c') ∧ Own w' w.heap.size A' (n + n2) c' (us ++ vs) ∧ Keep w w' := by
  obtain ⟨i0, hi, hz0, hz1, hz2⟩ := info_parts infoSp
  have HA := Lib.hid h
  have HB := Lib.hid h2
  have hni : (n : Int) ≤ 50000 := by omega
  have hn2i : (n2 : Int) ≤ 50000 := by omega
  have hn0 : (0 : Int) ≤ (n : Int) := by omega
  have hn20 : (0 : Int) ≤ (n2 : Int) := by omega
  clear h h2
  go_enter Tryd.func59, Tryd.ntmps59
  go_wp2_with fail
  go_loopw [3, 11] (fun v i wr => w = wr ∧ ((i = .int .i64 0 ∧ v = .int .i64 0) ∨ (i = .int .i64 1 ∧ v = .int .i64 n) ∨ (i = .int .i64 2 ∧ v = .int .i64 ((n : Int) + (n2 : Int))))) (fun v i _ => 2 - (intOf i).toNat)
  case atStart => exact ⟨rfl, .inl ⟨rfl, rfl⟩⟩
  case round =>
    obtain ⟨rfl, hrel⟩ := hrel
    rcases hrel with ⟨rfl, rfl⟩ | ⟨rfl, rfl⟩ | ⟨rfl, rfl⟩
    · go_wp2_with fail
      go_roundw
      case rel => exact ⟨trivial, .inr (.inl ⟨by go_num, by go_num⟩)⟩
      case measure => simp [intOf]
    · go_wp2_with fail
      go_roundw
      case rel => exact ⟨trivial, .inr (.inr ⟨by go_num, by go_num⟩)⟩
      case measure => simp [intOf]
    · go_wp2_with fail
      go_at_call 74
      have hg := grow_nil (n + n2) w (by omega)
      rw [Int.natCast_add] at hg
      refine hg.mono ?_
      rintro e w3 ⟨A3, c3, rfl, hO3, hk3⟩
      have P01 := Lib.hid (And.intro p0 p1)
      clear hg p0 p1
      go_wp2_with fail
      go_loopw [6, 27] (fun v i ws => Keep w ws ∧ ∃ (A' : Option Addr) (c' : Nat), (i = .int .i64 0 ∧ v = .slice A' 0 c' ∧ Own ws w.heap.size A' 0 c' []) ∨ (i = .int .i64 1 ∧ v = .slice A' n c' ∧ Own ws w.heap.size A' n c' us) ∨ (i = .int .i64 2 ∧ v = .slice A' (n + n2) c' ∧ Own ws w.heap.size A' (n + n2) c' (us ++ vs))) (fun v i _ => 2 - (intOf i).toNat)
      case atStart => exact ⟨hk3, A3, c3, .inl ⟨rfl, rfl, hO3⟩⟩
      case round =>
        obtain ⟨hk, A', c', hrel⟩ := hrel
        clear hO3
        rcases hrel with ⟨rfl, rfl, hO⟩ | ⟨rfl, rfl, hO⟩ | ⟨rfl, rfl, hO⟩
        · have HO := Lib.hid hO
          have HX := Lib.hid (HA.out.keep hk)
          have hml : 0 + n ≤ maxLen := by unfold maxLen; omega
          have hby : (0 + n) * 8 ≤ 140737488355328 := by omega
          have hbs : w.heap.size ≤ wr.heap.size := hk.size
          have q0 : wr.cell? ⟨p, 0, none⟩ = some (.slice A n c) := (hk.cell (p := ⟨p, 0, none⟩) hp).trans P01.out.1
          have q1 : wr.cell? ⟨p, 1, none⟩ = some (.slice B n2 c2) := (hk.cell (p := ⟨p, 1, none⟩) hp).trans P01.out.2
          clear hO
          go_wp2_with (first
            | (at_builtin; go_must (refine wpList_append_prs rfl _ _ 32 rfl w.heap.size 37 i0 (.agg #[.int .u32 0, .int .u32 0]) 8 Tryd.underlying32 hi hz0 hz1 hz2 rfl spOne _ 0 [] rfl HO.out _ A n c us rfl HX.out.prs HX.out.nil hml hby hbs ?_); intro A6 c6 w6 hown6 hgrow6 _))
          have hK6 : Keep w w6 := Only.keep hk (Only.grown (S := fun k => w.heap.size ≤ k) (Only.refl _ _) hgrow6 (fun k _ e => (HO.out.lt k e).1)) (fun k e => e)
          go_wp2_with fail
          go_roundw
          case rel => exact ⟨hK6, A6, c6, .inr (.inl ⟨by go_num, by simp, by simpa using hown6⟩)⟩
          case measure => simp [intOf]
        · have HO := Lib.hid hO
          have HX := Lib.hid (HB.out.keep hk)
          have hml : n + n2 ≤ maxLen := by unfold maxLen; omega
          have hby : (n + n2) * 8 ≤ 140737488355328 := by omega
          have hbs : w.heap.size ≤ wr.heap.size := hk.size
          have q0 : wr.cell? ⟨p, 0, none⟩ = some (.slice A n c) := (hk.cell (p := ⟨p, 0, none⟩) hp).trans P01.out.1
          have q1 : wr.cell? ⟨p, 1, none⟩ = some (.slice B n2 c2) := (hk.cell (p := ⟨p, 1, none⟩) hp).trans P01.out.2
          clear hO
          go_wp2_with (first
            | (at_builtin; go_must (refine wpList_append_prs rfl _ _ 32 rfl w.heap.size 37 i0 (.agg #[.int .u32 0, .int .u32 0]) 8 Tryd.underlying32 hi hz0 hz1 hz2 rfl spOne _ n us rfl HO.out _ B n2 c2 vs rfl HX.out.prs HX.out.nil hml hby hbs ?_); intro A6 c6 w6 hown6 hgrow6 _))
          have hK6 : Keep w w6 := Only.keep hk (Only.grown (S := fun k => w.heap.size ≤ k) (Only.refl _ _) hgrow6 (fun k _ e => (HO.out.lt k e).1)) (fun k e => e)
          go_wp2_with fail
          go_roundw
          case rel => exact ⟨hK6, A6, c6, .inr (.inr ⟨by go_num, rfl, hown6⟩)⟩
          case measure => simp [intOf]
        · have HO := Lib.hid hO
          clear hO
          go_wp2_with fail
          go_ret
          exact ⟨A', c', rfl, HO.out, hk⟩
end Go.Proofs.YtmdhbbibghpijaaDoor
