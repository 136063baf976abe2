/- Aggs that are compared, at a seat without the rest of agg. -/
import Derived.Test.YtopengbflnoneaaAggFn
namespace Go.Proofs.Ytopengbflnoneaa
open Go.RowKit

theorem agFields : ∃ f0 f1 f2 f3 : Field, Try.prog.underlying 38 = some (.struct #[f0, f1, f2, f3]) ∧ f0.offset = 0 ∧ f1.offset = 1 ∧ f2.offset = 2 ∧ f3.offset = 3 ∧ f0.type = 3 ∧ f1.type = 2 ∧ f2.type = 2 ∧ f3.type = 2 ∧ (f0.name != "_") = true ∧ (f1.name != "_") = true ∧ (f2.name != "_") = true ∧ (f3.name != "_") = true :=
  ⟨_, _, _, _, Try.underlying38, by kernel_rfl, by kernel_rfl, by kernel_rfl, by kernel_rfl, by kernel_rfl, by kernel_rfl, by kernel_rfl, by kernel_rfl, by kernel_rfl, by kernel_rfl, by kernel_rfl, by kernel_rfl⟩
theorem equal_ag (c s mn mx : Int) (w : World) : (Op.equalIn 10000 38 (.agg #[.int .i64 c, .int .i64 s, .int .i64 mn, .int .i64 mx]) (.agg #[.int .i64 c, .int .i64 s, .int .i64 mn, .int .i64 mx])).run Try.prog w = .ok true w := by
  have h := run_equalIn_struct (P := Try.prog) w 9999 38 #[.int .i64 c, .int .i64 s, .int .i64 mn, .int .i64 mx] #[.int .i64 c, .int .i64 s, .int .i64 mn, .int .i64 mx] (by kernel_rfl) (by kernel_rfl)
  rw [h]
  obtain ⟨f0, f1, f2, f3, e, o0, o1, o2, o3, t0, t1, t2, t3, n0, n1, n2, n3⟩ := agFields
  have e2 : (Try.prog.fieldsOf 38).toList = [f0, f1, f2, f3] := by simp [Program.fieldsOf, e]
  rw [e2]
  simp [Op.eqFields, o0, o1, o2, o3, t0, t1, t2, t3, bne_iff_ne.1 n0, bne_iff_ne.1 n1, bne_iff_ne.1 n2, bne_iff_ne.1 n3, go_sem]
end Go.Proofs.Ytopengbflnoneaa
