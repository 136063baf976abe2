/- label.Dominates and label.Less; the equality of labels. -/
import Derived.Test.YtknjekakncjbgabDoorLabFn
namespace Go.Proofs.YtknjekakncjbgabDoor
open Go.RowKit

theorem lbFields : ∃ f0 f1 : Field, Tryd.prog.underlying 25 = some (.struct #[f0, f1]) ∧ f0.offset = 0 ∧ f1.offset = 1 ∧ f0.type = 5 ∧ f1.type = 23 ∧ (f0.name != "_") = true ∧ (f1.name != "_") = true :=
  ⟨_, _, Tryd.underlying25, by kernel_rfl, by kernel_rfl, by kernel_rfl, by kernel_rfl, by kernel_rfl, by kernel_rfl⟩
theorem equalIn_lb (p q r s : Int) (w : World) : (Op.equalIn 10000 25 (.agg #[.int .u8 p, .int .u16 q]) (.agg #[.int .u8 r, .int .u16 s])).run Tryd.prog w = .ok (eq4 p q r s) w := by
  have h := run_equalIn_struct (P := Tryd.prog) w 9999 25 #[.int .u8 p, .int .u16 q] #[.int .u8 r, .int .u16 s] (by kernel_rfl) (by kernel_rfl)
  rw [h]
  obtain ⟨f0, f1, e, o0, o1, t0, t1, n0, n1⟩ := lbFields
  have e2 : (Tryd.prog.fieldsOf 25).toList = [f0, f1] := by simp [Program.fieldsOf, e]
  rw [e2]
  simp [Op.eqFields, o0, o1, t0, t1, bne_iff_ne.1 n0, bne_iff_ne.1 n1, go_sem, eq4]
  by_cases h1 : p = r <;> by_cases h2 : q = s <;> simp [h1, h2]
theorem eql_lb (p q r s : Int) (w : World) : (binOp .eql 25 (.agg #[.int .u8 p, .int .u16 q]) (.agg #[.int .u8 r, .int .u16 s])).run Tryd.prog w = .ok (.bool (eq4 p q r s)) w := by
  rw [run_eql_struct, equalIn_lb]
  rfl

set_option maxHeartbeats 1000000 in
theorem dom_any (a b : Lb) (w : World) (ha : a.ok) (hb : b.ok) :
    Calls Tryd.prog 29 #[.agg #[.int .u8 a.lv, .int .u16 a.ct], .agg #[.int .u8 b.lv, .int .u16 b.ct]] w fun e w' => e = .returned (.bool (dm a b)) ∧ Keep w w' := by
  have q1 := equalIn_lb
  have HA := (LbAt.new w a).keep ((Keep.refl _).alloc (.cells #[.int .u8 b.lv, .int .u16 b.ct] 25))
  have HB : LbAt ((w.alloc (.cells #[.int .u8 a.lv, .int .u16 a.ct] 25)).alloc (.cells #[.int .u8 b.lv, .int .u16 b.ct] 25)) (w.heap.size + 1) b := by
    have := LbAt.new (w.alloc (.cells #[.int .u8 a.lv, .int .u16 a.ct] 25)) b
    simpa using this
  obtain ⟨d0, d1⟩ := HA.cells
  obtain ⟨d2, d3⟩ := HB.cells
  have hk0 := ((Keep.refl w).alloc (.cells #[.int .u8 a.lv, .int .u16 a.ct] 25)).alloc (.cells #[.int .u8 b.lv, .int .u16 b.ct] 25)
  have HW := Lib.hid HA
  have HW2 := Lib.hid HB
  clear HA HB
  go_enter Tryd.func29, Tryd.ntmps29
  go_wp2_with fail
  go_region_held3 (fun w' => (w'.cell? ⟨w.heap.size, 0, none⟩ = some (.int .u8 a.lv) ∧ w'.cell? ⟨w.heap.size, 1, none⟩ = some (.int .u16 a.ct)) ∧ (w'.cell? ⟨w.heap.size + 1, 0, none⟩ = some (.int .u8 b.lv) ∧ w'.cell? ⟨w.heap.size + 1, 1, none⟩ = some (.int .u16 b.ct))) (first | exact ⟨⟨d0, d1⟩, d2, d3⟩ | exact ⟨⟨e0, e1⟩, e2, e3⟩)
    (first
      | (go_at_call 22; refine (join_any a b _ ha hb).mono ?_; rintro e w1 ⟨rfl, hk1⟩; obtain ⟨e0, e1⟩ := (HW.out.keep ((Keep.refl _).drew.trans hk1)).cells; obtain ⟨e2, e3⟩ := (HW2.out.keep ((Keep.refl _).drew.trans hk1)).cells))
  go_wp2
  go_ret
  exact ⟨rfl, hk0.drew.trans hk1⟩

end Go.Proofs.YtknjekakncjbgabDoor
