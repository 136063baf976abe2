/- label's functions: what each call answers. -/
import Derived.Test.YtknjekakncjbgabDoorProg
import Derived.Test.YtknjekakncjbgabDoorLabMath
import Derived.Deep.RegionHeld3
namespace Go.Proofs.YtknjekakncjbgabDoor
open Go.RowKit

/-- A label as a value. -/
def Lb.val (l : Lb) : Value := .agg #[.int .u8 l.lv, .int .u16 l.ct]
/-- A label that lies in block b. -/
def LbAt (w : World) (b : Nat) (l : Lb) : Prop := w.heap[b]? = some (.cells #[.int .u8 l.lv, .int .u16 l.ct] 25 (0, 0))

theorem ret_agg {a b c d : Int} (h : a = c) (h' : b = d) : Ending.returned (.agg #[.int .u8 a, .int .u16 b]) = .returned (.agg #[.int .u8 c, .int .u16 d]) := by rw [h, h']

theorem keep3 (w : World) (o1 o2 o3 : Obj) : Keep w (((w.alloc o1).alloc o2).alloc o3) := (((Keep.refl w).alloc _).alloc _).alloc _

set_option maxHeartbeats 1000000 in
theorem join_any (a b : Lb) (w : World) (ha : a.ok) (hb : b.ok) :
    Calls Tryd.prog 22 #[.agg #[.int .u8 a.lv, .int .u16 a.ct], .agg #[.int .u8 b.lv, .int .u16 b.ct]] w fun e w' => e = .returned (.agg #[.int .u8 (jn a b).lv, .int .u16 (jn a b).ct]) ∧ Keep w w' := by
  obtain ⟨⟨h1, h2⟩, h3, h4⟩ := ha
  obtain ⟨⟨g1, g2⟩, g3, g4⟩ := hb
  have hor := bits_or16 _ _ h3 h4 g3 g4
  rcases Int.lt_trichotomy a.lv b.lv with hlt | heq | hgt
  · have hv : max a.lv b.lv = b.lv := by omega
    have HV := Lib.hid hv
    clear hv
    go_enter Tryd.func22, Tryd.ntmps22
    go_wp2
    exact bodyPost_ret (v := .agg #[.int .u8 b.lv, .int .u16 (orC a.ct b.ct)]) (by simp [results, Tryd.results22, go_sem]) rfl ⟨ret_agg HV.out.symm rfl, keep3 _ _ _ _⟩
  · have hv : max a.lv b.lv = b.lv := by omega
    have HV := Lib.hid hv
    clear hv
    rw [heq]
    clear heq
    go_enter Tryd.func22, Tryd.ntmps22
    go_wp2
    exact bodyPost_ret (v := .agg #[.int .u8 b.lv, .int .u16 (orC a.ct b.ct)]) (by simp [results, Tryd.results22, go_sem]) rfl ⟨ret_agg HV.out.symm rfl, keep3 _ _ _ _⟩
  · have hv : max a.lv b.lv = a.lv := by omega
    have HV := Lib.hid hv
    clear hv
    go_enter Tryd.func22, Tryd.ntmps22
    go_wp2
    exact bodyPost_ret (v := .agg #[.int .u8 a.lv, .int .u16 (orC a.ct b.ct)]) (by simp [results, Tryd.results22, go_sem]) rfl ⟨ret_agg HV.out.symm rfl, keep3 _ _ _ _⟩

set_option maxHeartbeats 1000000 in
theorem meet_any (a b : Lb) (w : World) (ha : a.ok) (hb : b.ok) :
    Calls Tryd.prog 21 #[.agg #[.int .u8 a.lv, .int .u16 a.ct], .agg #[.int .u8 b.lv, .int .u16 b.ct]] w fun e w' => e = .returned (.agg #[.int .u8 (mt a b).lv, .int .u16 (mt a b).ct]) ∧ Keep w w' := by
  obtain ⟨⟨h1, h2⟩, h3, h4⟩ := ha
  obtain ⟨⟨g1, g2⟩, g3, g4⟩ := hb
  have hor := bits_and16 _ _ h3 h4 g3 g4
  rcases Int.lt_trichotomy a.lv b.lv with hlt | heq | hgt
  · have hv : min a.lv b.lv = a.lv := by omega
    have HV := Lib.hid hv
    clear hv
    go_enter Tryd.func21, Tryd.ntmps21
    go_wp2
    exact bodyPost_ret (v := .agg #[.int .u8 a.lv, .int .u16 (andC a.ct b.ct)]) (by simp [results, Tryd.results21, go_sem]) rfl ⟨ret_agg HV.out.symm rfl, keep3 _ _ _ _⟩
  · have hv : min a.lv b.lv = b.lv := by omega
    have HV := Lib.hid hv
    clear hv
    rw [heq]
    clear heq
    go_enter Tryd.func21, Tryd.ntmps21
    go_wp2
    exact bodyPost_ret (v := .agg #[.int .u8 b.lv, .int .u16 (andC a.ct b.ct)]) (by simp [results, Tryd.results21, go_sem]) rfl ⟨ret_agg HV.out.symm rfl, keep3 _ _ _ _⟩
  · have hv : min a.lv b.lv = b.lv := by omega
    have HV := Lib.hid hv
    clear hv
    go_enter Tryd.func21, Tryd.ntmps21
    go_wp2
    exact bodyPost_ret (v := .agg #[.int .u8 b.lv, .int .u16 (andC a.ct b.ct)]) (by simp [results, Tryd.results21, go_sem]) rfl ⟨ret_agg HV.out.symm rfl, keep3 _ _ _ _⟩

/-- May it be? -/
def chk (l : Lb) : Int := if l.lv ≤ 15 then 0 else 23
theorem check_any (a : Lb) (w : World) :
    Calls Tryd.prog 23 #[.agg #[.int .u8 a.lv, .int .u16 a.ct]] w fun e w' => e = .returned (.int .i64 (chk a)) ∧ Keep w w' := by
  by_cases h : a.lv ≤ 15
  · have HC := Lib.hid (show chk a = 0 from if_pos h)
    go_enter Tryd.func23, Tryd.ntmps23
    go_wp2
    go_ret
    exact ⟨ret_int HC.out.symm, (Keep.refl w).alloc _⟩
  · have HC := Lib.hid (show chk a = 23 from if_neg h)
    go_enter Tryd.func23, Tryd.ntmps23
    go_wp2
    go_ret
    exact ⟨ret_int HC.out.symm, (Keep.refl w).alloc _⟩

theorem nm_or (a b : Int) (ha : 0 ≤ a) (ha2 : a ≤ 255) (hb : 0 ≤ b) (hb2 : b ≤ 65535) : bits BinOp.or IntKind.u64 (a * 65536) b = a * 65536 + b := by
  rw [u64_or _ _ (by omega) (by omega) (by omega) (by omega), nat_join 16 _ _ (by omega) (by omega)]
  omega

theorem LbAt.keep {w w' : World} {b : Nat} {l : Lb} (h : LbAt w b l) (hk : Keep w w') : LbAt w' b l := (hk.block b (Array.getElem?_eq_some_iff.1 h).1).trans h
theorem LbAt.new (w : World) (l : Lb) : LbAt (w.alloc (.cells #[.int .u8 l.lv, .int .u16 l.ct] 25)) w.heap.size l := World.alloc_heap_new _ _
theorem LbAt.cells {w : World} {b : Nat} {l : Lb} (h : LbAt w b l) : w.cell? ⟨b, 0, none⟩ = some (.int .u8 l.lv) ∧ w.cell? ⟨b, 1, none⟩ = some (.int .u16 l.ct) := by
  unfold LbAt at h
  simp [World.cell?, h]

end Go.Proofs.YtknjekakncjbgabDoor
