/- The law's own example: alive. -/
import Derived.Test.YtknjekakncjbgabDoorLatClose
namespace Go.Proofs.YtknjekakncjbgabDoor
open Go.RowKit

theorem new_yes (A : Option Addr) (n c : Nat) (ls : List Lb) (w : World) (h : LbS w w.heap.size A n ls) (hl : ∀ y ∈ ls, y.ok) (hn : n ≤ 1000000) (h0 : newE ls = 0) :
    Calls Tryd.prog 9 #[.slice A n c] w fun e w' => ∃ p, e = .returned (.tuple #[.pointer (some ⟨p, 0, none⟩), .int .i64 0]) ∧ Keep w w' ∧ w.heap.size ≤ p ∧ Lat w' p ls := by
  refine (new_any A n c ls w h hl hn).mono ?_
  rintro e w' ⟨hk, ⟨h1, _⟩ | ⟨_, p, h2, h3, h4⟩⟩
  · exact absurd h0 h1
  · exact ⟨p, h2, hk, h3, h4⟩
theorem new_no (A : Option Addr) (n c : Nat) (ls : List Lb) (v : Int) (w : World) (h : LbS w w.heap.size A n ls) (hl : ∀ y ∈ ls, y.ok) (hn : n ≤ 1000000) (h0 : newE ls = v) (hv : v ≠ 0) :
    Calls Tryd.prog 9 #[.slice A n c] w fun e w' => e = .returned (.tuple #[.pointer none, .int .i64 v]) ∧ Keep w w' := by
  refine (new_any A n c ls w h hl hn).mono ?_
  subst h0
  rintro e w' ⟨hk, ⟨_, h2⟩ | ⟨h1, _⟩⟩
  · exact ⟨h2, hk⟩
  · exact absurd h1 hv

def exA : List Lb := [⟨0, 0⟩, ⟨1, 0⟩]
def exB : List Lb := [⟨0, 0⟩, ⟨0, 0⟩]
theorem exA_ok : ∀ y ∈ exA, y.ok := by intro y hy; simp [exA] at hy; rcases hy with rfl | rfl <;> simp [Lb.ok]
theorem exB_ok : ∀ y ∈ exB, y.ok := by intro y hy; simp [exB] at hy; subst hy; simp [Lb.ok]
theorem ok_of (a b : Int) (h : 0 ≤ a ∧ a ≤ 255 ∧ 0 ≤ b ∧ b ≤ 65535) : (⟨a, b⟩ : Lb).ok := ⟨⟨h.1, h.2.1⟩, h.2.2.1, h.2.2.2⟩

set_option maxRecDepth 100000 in
set_option maxHeartbeats 4000000 in
theorem alive_any (w : World) (hT : Tab w) : Calls Tryd.prog 8 #[] w fun e w' => e = .returned (.bool true) ∧ Keep w w' := by
  have hpos := hT.pos
  have e1 : dwn exA 1 = 3 := by decide
  have e2 : dwn exA 0 = 1 := by decide
  have e3 : blw exA ⟨9, 0⟩ = 3 := by decide
  have e4 : clo exA 3 = 3 := by decide
  have e5 : clo exA 2 = 3 := by decide
  have HA := Lib.hid (Prs.made (f := fun l : Lb => Value.int .u8 l.lv) (g := fun l : Lb => Value.int .u16 l.ct) w #[.int .u8 0, .int .u16 0, .int .u8 1, .int .u16 0] 25 exA rfl)
  have E := Lib.hid (And.intro e1 (And.intro e2 (And.intro e3 (And.intro e4 e5))))
  have HT := Lib.hid hT
  clear e1 e2 e3 e4 e5 hT hpos
  go_enter Tryd.func8, Tryd.ntmps8
  go_wp2_with fail
  go_at_call 9
  refine (new_yes _ 2 2 exA _ HA.out exA_ok (by decide) (by decide)).mono ?_
  rintro e w1 ⟨p, rfl, hk1, hp, hL⟩
  have HB := Lib.hid (Prs.made (f := fun l : Lb => Value.int .u8 l.lv) (g := fun l : Lb => Value.int .u16 l.ct) w1 #[.int .u8 0, .int .u16 0, .int .u8 0, .int .u16 0] 25 exB rfl)
  have HL := Lib.hid hL
  clear hL HA
  go_wp2_with fail
  go_at_call 9
  refine (new_no _ 2 2 exB 5 _ HB.out exB_ok (by decide) (by decide) (by decide)).mono ?_
  rintro e w2 ⟨rfl, hk2⟩
  have HL2 := Lib.hid (HL.out.keep (((Keep.refl _).alloc _).trans hk2))
  have hK2 : Keep w w2 := (((Keep.refl w).alloc _).trans hk1).trans (((Keep.refl _).alloc _).trans hk2)
  clear HL hk1 hk2 HB hp
  go_wp2_with fail
  go_at_call 11
  refine (index_yes p exA ⟨1, 0⟩ 1 _ HL2.out rfl).mono ?_
  rintro e w3 ⟨rfl, hk3⟩
  have HL3 := Lib.hid (HL2.out.keep hk3)
  have hK3 := hK2.trans hk3
  clear hk3 HL2 hK2
  go_wp2_with fail
  go_at_call 11
  refine (index_no p exA ⟨2, 0⟩ _ HL3.out (ok_of _ _ (by decide)) (by decide)).mono ?_
  rintro e w4 ⟨rfl, hk4⟩
  have HL4 := Lib.hid (HL3.out.keep hk4)
  have hK4 := hK3.trans hk4
  clear hk4 HL3 hK3
  go_wp2_with fail
  go_at_call 13
  refine (at_yes p exA 1 ⟨1, 0⟩ _ HL4.out rfl).mono ?_
  rintro e w5 ⟨rfl, hk5⟩
  have HL5 := Lib.hid (HL4.out.keep (hk5.alloc (.cells #[.int .u8 1, .int .u16 0] 25)))
  have hK5 := hK4.trans (hk5.alloc (.cells #[.int .u8 1, .int .u16 0] 25))
  have c5 := (LbAt.new w5 ⟨1, 0⟩).cells
  have hs5 : w5.heap.size < (w5.alloc (.cells #[.int .u8 1, .int .u16 0] 25)).heap.size := by simp
  clear hk5 HL4 hK4
  go_wp2_with fail
  generalize w5.alloc (.cells #[.int .u8 1, .int .u16 0] 25) = W5 at *
  go_at_call 13
  refine (at_no p exA 2 _ HL5.out (.inr (by decide))).mono ?_
  rintro e w6 ⟨rfl, hk6⟩
  have hkk6 := hk6.alloc (.cells #[.int .u8 0, .int .u16 0] 25)
  have HL6 := Lib.hid (HL5.out.keep hkk6)
  have hK6 := hK5.trans hkk6
  have c6 := (hkk6.cell (p := ⟨w5.heap.size, 0, none⟩) hs5).trans c5.1
  have hs6 := Nat.lt_of_lt_of_le hs5 hkk6.size
  clear hk6 HL5 hK5 c5 hs5 hkk6
  go_wp2_with fail
  generalize w6.alloc (.cells #[.int .u8 0, .int .u16 0] 25) = W6 at *
  go_at_call 16
  refine (len_any p exA _ HL6.out).mono ?_
  rintro e w7 ⟨rfl, hk7⟩
  have HL7 := Lib.hid (HL6.out.keep hk7)
  have hK7 := hK6.trans hk7
  have c7 := (hk7.cell (p := ⟨w5.heap.size, 0, none⟩) hs6).trans c6
  have el : exA.length = 2 := rfl
  rw [el]
  clear hk7 HL6 hK6 c6 hs6 el
  go_wp2_with fail
  go_at_call 17
  refine (down_nat p exA 1 _ HL7.out).mono ?_
  rintro e w8 ⟨rfl, hk8⟩
  rw [E.out.1]
  have HL8 := Lib.hid (HL7.out.keep hk8)
  have hK8 := hK7.trans hk8
  clear hk8 HL7 hK7 c7
  go_wp2_with fail
  go_at_call 17
  refine (down_nat p exA 0 _ HL8.out).mono ?_
  rintro e w9 ⟨rfl, hk9⟩
  rw [E.out.2.1]
  have HL9 := Lib.hid (HL8.out.keep hk9)
  have hK9 := hK8.trans hk9
  clear hk9 HL8 hK8
  go_wp2_with fail
  go_at_call 18
  refine (below_any p exA ⟨9, 0⟩ _ HL9.out (ok_of _ _ (by decide))).mono ?_
  rintro e w10 ⟨rfl, hk10⟩
  rw [E.out.2.2.1]
  have HL10 := Lib.hid (HL9.out.keep hk10)
  have hK10 := hK9.trans hk10
  clear hk10 HL9 hK9
  go_wp2_with fail
  go_at_call 20
  refine (closed_any p exA 3 _ HL10.out (by decide) (HT.out.below HT.out.pos hK10)).mono ?_
  rintro e w11 ⟨rfl, hk11⟩
  rw [E.out.2.2.2.1]
  have HL11 := Lib.hid (HL10.out.keep hk11)
  have hK11 := hK10.trans hk11
  clear hk11 HL10 hK10
  go_wp2_with fail
  go_at_call 20
  refine (closed_any p exA 2 _ HL11.out (by decide) (HT.out.below HT.out.pos hK11)).mono ?_
  rintro e w12 ⟨rfl, hk12⟩
  rw [E.out.2.2.2.2]
  have HL12 := Lib.hid (HL11.out.keep hk12)
  have hK12 := hK11.trans hk12
  clear hk12 HL11 hK11
  go_wp2_with fail
  go_at_call 19
  refine (close_any p exA 2 _ HL12.out (by decide) (HT.out.below HT.out.pos hK12)).mono ?_
  rintro e w13 ⟨rfl, hk13⟩
  rw [E.out.2.2.2.2]
  have hK13 := hK12.trans hk13
  clear hk13 HL12 hK12
  go_wp2
  go_ret
  exact ⟨rfl, hK13⟩
end Go.Proofs.YtknjekakncjbgabDoor
