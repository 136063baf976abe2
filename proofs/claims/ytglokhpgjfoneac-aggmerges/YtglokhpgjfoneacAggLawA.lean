/- AggTells: of all values, of two of whatever numbers, and of all kinds, every answer is as said. -/
import Derived.Test.YtglokhpgjfoneacAggAlive
import Derived.Test.YtglokhpgjfoneacAggRef
import Derived.Test.YtglokhpgjfoneacAggRef2
import Derived.Test.YtglokhpgjfoneacArr2
import Derived.Lib.SmallJoins
import Derived.OpenShut
namespace Go.Proofs.Ytglokhpgjfoneac
open Go.RowKit Go.Joins Go.ChangeShapes Go.WideShapes Go.Deep

theorem inI_of {z : Int} (h : (Lit.int .i64 z).wf = true) : inI z := by
  have e1 : IntKind.i64.min = -9223372036854775808 := by decide
  have e2 : IntKind.i64.max = 9223372036854775807 := by decide
  simp [Lit.wf, e1, e2] at h
  exact ⟨by omega, by omega⟩
theorem Arr.in {w : World} {a : Option Addr} {len : Nat} {zs : List Int} (h : Arr .i64 w a len zs) : ∀ z ∈ zs, inI z := fun z hz => inI_of (h.2.2 z hz)
theorem open_arg24 {H : Type} {w : World} {held : Bool} {r : Reach} {b0 : Nat} (enc : TypeId × Value → H) {v : Value} {d : DataW H} {p : List MemPlace}
    (hv : Value.okWide Try.prog w r b0 24 v) (h : DataW.Trod enc Try.prog w 0 (fun _ => true) held 24 v d p) : ∃ z : Ag, v = .agg #[.int .i64 z.c, .int .i64 z.s, .int .i64 z.mn, .int .i64 z.mx] ∧ z.ok := by
  obtain ⟨f0, f1, f2, f3, e, o0, o1, o2, o3, t0, t1, t2, t3, n0, n1, n2, n3⟩ := agFields
  have hone : oneCellFields Try.prog #[f0, f1, f2, f3] = true := by
    have : (Try.prog.underlying 24).map (fun d => match d with | .struct fs => oneCellFields Try.prog fs | _ => false) = some true := by kernel_rfl
    rw [e] at this
    exact Option.some.inj this
  obtain ⟨v0, v1, v2, v3, y0, y1, y2, y3, n, rfl, rfl, rfl, h0, h1, h2, h3⟩ := open_agg4 e hone (by kernel_rfl) hv h
  rw [t0] at h0
  rw [t1] at h1
  rw [t2] at h2
  rw [t3] at h3
  obtain ⟨x0, q0, _, wf0⟩ := DataW.trod_int Try.underlying3 h0
  obtain ⟨x1, q1, _, wf1⟩ := DataW.trod_int Try.underlying2 h1
  obtain ⟨x2, q2, _, wf2⟩ := DataW.trod_int Try.underlying2 h2
  obtain ⟨x3, q3, _, wf3⟩ := DataW.trod_int Try.underlying2 h3
  simp only [List.cons.injEq, and_true] at q0 q1 q2 q3
  subst q0 q1 q2 q3
  exact ⟨⟨x0, x1, x2, x3⟩, rfl, inI_of wf0, inI_of wf1, inI_of wf2, inI_of wf3⟩

theorem Lies.up {w w' : World} {A : Option Addr} {n : Nat} {xs : List Value} (h : Lies w w.heap.size A n xs) (hk : Keep w w') : Lies w' w'.heap.size A n xs := (h.below hk).more hk.size
theorem two_at (w : World) (a b : Ag) : AgAt ((w.alloc (.cells #[.int .i64 a.c, .int .i64 a.s, .int .i64 a.mn, .int .i64 a.mx] 24)).alloc (.cells #[.int .i64 b.c, .int .i64 b.s, .int .i64 b.mn, .int .i64 b.mx] 24)) w.heap.size a ∧ AgAt ((w.alloc (.cells #[.int .i64 a.c, .int .i64 a.s, .int .i64 a.mn, .int .i64 a.mx] 24)).alloc (.cells #[.int .i64 b.c, .int .i64 b.s, .int .i64 b.mn, .int .i64 b.mx] 24)) (w.heap.size + 1) b := by
  refine ⟨(AgAt.new w a).keep ((Keep.refl _).alloc _), ?_⟩
  have := AgAt.new (w.alloc (.cells #[.int .i64 a.c, .int .i64 a.s, .int .i64 a.mn, .int .i64 a.mx] 24)) b
  simpa using this

set_option maxRecDepth 100000 in
set_option maxHeartbeats 4000000 in
theorem tells_law (A : Option Addr) (len cap : Nat) (zs : List Int) (a b : Ag) (k : Int) (w : World) (row : Arr .i64 w A len zs) (ha : a.ok) :
    Calls Try.prog 3 #[.slice A len cap, .agg #[.int .i64 a.c, .int .i64 a.s, .int .i64 a.mn, .int .i64 a.mx], .agg #[.int .i64 b.c, .int .i64 b.s, .int .i64 b.mn, .int .i64 b.mx], .int .i64 k] w fun e w' => e = .returned (.bool true) ∧ Keep w w' := by
  have hz := row.in
  obtain ⟨hml, hL, -⟩ := row
  unfold maxLen at hml
  obtain ⟨hA, hB⟩ := two_at w a b
  have hk0 := ((Keep.refl w).alloc (.cells #[.int .i64 a.c, .int .i64 a.s, .int .i64 a.mn, .int .i64 a.mx] 24)).alloc (.cells #[.int .i64 b.c, .int .i64 b.s, .int .i64 b.mn, .int .i64 b.mx] 24)
  by_cases h3 : 300 < len
  · clear hA hB hz hL
    go_enter Try.func3, Try.ntmps3
    go_wp2_with (go_at_call 8; refine (alive_any _).mono ?_; rintro e w1 ⟨rfl, hk1⟩)
    go_ret
    exact ⟨rfl, hk0.trans hk1⟩
  · have HL := Lib.hid hL
    have HZ := Lib.hid hz
    have HO := Lib.hid ha
    have hle : len ≤ 1000000 := by omega
    clear hL hz ha
    obtain ⟨v, hv⟩ : ∃ v, decide (a.c < 1) = !v := ⟨!decide (a.c < 1), by simp⟩
    have HV := Lib.hid hv
    clear hv
    have q1 := equal_ag
    go_enter Try.func3, Try.ntmps3
    go_wp2_with fail
    generalize (w.alloc (.cells #[.int .i64 a.c, .int .i64 a.s, .int .i64 a.mn, .int .i64 a.mx] 24)).alloc (.cells #[.int .i64 b.c, .int .i64 b.s, .int .i64 b.mn, .int .i64 b.mx] 24) = W0 at *
    go_at_call 8
    refine (alive_any _).mono ?_
    rintro e w1 ⟨rfl, hk1⟩
    have HA := Lib.hid hA
    have HB := Lib.hid hB
    clear hA hB
    obtain ⟨a0, a1, a2, a3⟩ := (HA.out.keep hk1).cells
    go_wp2_with fail
    go_at_call 9
    refine (avg_any a _ HO.out v HV.out).mono ?_
    rintro e w2 ⟨rfl, hk2⟩
    replace hk2 := hk1.trans hk2
    clear a0 a1 a2 a3 hk1
    obtain ⟨a0, a1, a2, a3⟩ := (HA.out.keep hk2).cells
    go_wp2_with fail
    go_at_call 10
    refine (ravg_any a _ HO.out v HV.out).mono ?_
    rintro e w3 ⟨rfl, hk3⟩
    replace hk3 := hk2.trans hk3
    clear a0 a1 a2 a3 hk2
    obtain ⟨a0, a1, a2, a3⟩ := (HA.out.keep hk3).cells
    go_wp2_with fail
    go_at_call 11
    refine (pick_any a k _ HO.out).mono ?_
    rintro e w4 ⟨rfl, hk4⟩
    replace hk4 := hk3.trans hk4
    clear a0 a1 a2 a3 hk3
    obtain ⟨a0, a1, a2, a3⟩ := (HA.out.keep hk4).cells
    go_wp2_with fail
    go_at_call 12
    refine (rpick_any a k _ HO.out).mono ?_
    rintro e w5 ⟨rfl, hk5⟩
    replace hk5 := hk4.trans hk5
    clear a0 a1 a2 a3 hk4
    go_wp2_with fail
    have hA5 := HA.out.keep hk5
    have hB5 := HB.out.keep hk5
    generalize pkV a k = pv at *
    generalize pkB a k = pb at *
    generalize avg a = av at *
    have HS := Lib.hid (show ∀ w', Keep w5 w' → Keep w5 w' ∧ ((w'.cell? ⟨w.heap.size, 0, none⟩ = some (.int .i64 a.c) ∧ w'.cell? ⟨w.heap.size, 1, none⟩ = some (.int .i64 a.s) ∧ w'.cell? ⟨w.heap.size, 2, none⟩ = some (.int .i64 a.mn) ∧ w'.cell? ⟨w.heap.size, 3, none⟩ = some (.int .i64 a.mx)) ∧ (w'.cell? ⟨w.heap.size + 1, 0, none⟩ = some (.int .i64 b.c) ∧ w'.cell? ⟨w.heap.size + 1, 1, none⟩ = some (.int .i64 b.s) ∧ w'.cell? ⟨w.heap.size + 1, 2, none⟩ = some (.int .i64 b.mn) ∧ w'.cell? ⟨w.heap.size + 1, 3, none⟩ = some (.int .i64 b.mx))) from
      fun w' h => ⟨h, (hA5.keep h).cells, (hB5.keep h).cells⟩)
    have hKc := (Keep.refl w5).drew
    refine seq_region (S := fun w' => Keep w5 w' ∧ ((w'.cell? ⟨w.heap.size, 0, none⟩ = some (.int .i64 a.c) ∧ w'.cell? ⟨w.heap.size, 1, none⟩ = some (.int .i64 a.s) ∧ w'.cell? ⟨w.heap.size, 2, none⟩ = some (.int .i64 a.mn) ∧ w'.cell? ⟨w.heap.size, 3, none⟩ = some (.int .i64 a.mx)) ∧ (w'.cell? ⟨w.heap.size + 1, 0, none⟩ = some (.int .i64 b.c) ∧ w'.cell? ⟨w.heap.size + 1, 1, none⟩ = some (.int .i64 b.s) ∧ w'.cell? ⟨w.heap.size + 1, 2, none⟩ = some (.int .i64 b.mn) ∧ w'.cell? ⟨w.heap.size + 1, 3, none⟩ = some (.int .i64 b.mx)))) [⟨0, 1, 17592186044416⟩, ⟨1, 17592186044416, 35184372088832⟩, ⟨0, 1, 70368744177664⟩, ⟨6, 70368744177664, 140737488355328⟩, ⟨10, 175921860444160, 281474976710656⟩, ⟨24, 281474976710656, 562949953421312⟩, ⟨32, 562949953421344, 1125899906842624⟩, ⟨32, 562949953421376, 2251799813685248⟩, ⟨224, 3940649673949184, 4503599627370496⟩, ⟨32, 562949953421344, 9007199254740992⟩, ⟨32, 562949953421376, 18014398509481984⟩, ⟨1824, 27584547717644288, 36028797018963968⟩, ⟨2336, 41095346599755776, 72057594037927936⟩, ⟨4128, 72620543991349248, 144115188075855872⟩, ⟨10240, 144115188075855872, 288230376151711744⟩, ⟨16384, 288230376151712256, 576460752303423488⟩, ⟨16384, 288230376151713792, 1152921504606846976⟩, ⟨114688, 2017612633061982208, 2305843009213693952⟩, ⟨147456, 2594073385365405696, 4611686018427387904⟩, ⟨278528, 4611686018427387904, 9223372036854775808⟩, ⟨524288, 9223372036854776832, 18446744073709551616⟩, ⟨524288, 9223372036854779904, 36893488147419103232⟩, ⟨3670016, 64563604257983430656, 73786976294838206464⟩, ⟨4718592, 83010348331692982272, 147573952589676412928⟩, ⟨8912896, 147573952589676412928, 295147905179352825856⟩, ⟨16777216, 295147905179352834048, 590295810358705651712⟩, ⟨16777216, 295147905179352858624, 1180591620717411303424⟩, ⟨117440512, 2066035336255469780992, 2361183241434822606848⟩, ⟨150994944, 2656331146614175432704, 4722366482869645213696⟩, ⟨285212672, 4722366482869645213696, 9444732965739290427392⟩, ⟨536870912, 9444732965739290443776, 18889465931478580854784⟩, ⟨536870912, 9444732965739290492928, 37778931862957161709568⟩, ⟨3758096384, 66113130760175032991744, 75557863725914323419136⟩, ⟨4831838208, 85002596691653613846528, 151115727451828646838272⟩, ⟨17179869183, 151115727451828646838272, 256⟩] [(0, false), (2, false), (1, true), (3, true), (4, false), (5, false), (6, false), (7, false), (9, false), (10, false), (8, true), (11, true), (12, false), (13, false), (14, false), (15, false), (16, false), (17, false), (18, false), (19, false), (20, false), (21, false), (22, false), (23, false), (24, false), (25, false), (26, false), (27, false), (28, false), (29, false), (30, false), (31, false), (32, false), (33, false), (34, false)] rfl (by kernel_rfl) (by kernel_rfl) (fun _ _ d _ _ h => by cases d <;> exact h) (HS.out _ hKc) ?_
    simp only [rowsOf, rowAt, gslot, List.map_cons, List.map_nil, List.getElem?_toArray, List.getElem?_cons_zero, List.getElem?_cons_succ, Option.bind_some]
    repeat (first
      | (refine seq_take (v := ?_) (a' := ?_) (by rfl) ?_ ?_ ?_
         rotate_left 2
         · (intro w hSw; obtain ⟨-, hSw⟩ := hSw; go_split_ands; go_simp; with_reducible rfl)
         · (simp only [Act.put, List.setIfInBounds_toArray, List.set_cons_zero, List.set_cons_succ]; with_reducible rfl))
      | (refine seq_callv (f := 13) (args := ?_) (v := ?_) (a' := ?_) (by rfl) (by rfl) (by rfl) Try.call13 ?_ ?_ ?_ ?_
         rotate_left 3
         · (go_simp; with_reducible rfl)
         · ((with_reducible refine (of_any A len cap zs _ (HL.out.up (hk0.trans (hk5.trans hKc))) hle).mono ?_)
            rintro e w' ⟨rfl, hk⟩
            refine ⟨?_, HS.out _ (hKc.trans hk)⟩
            with_reducible rfl)
         · (simp only [Act.put, List.setIfInBounds_toArray, List.set_cons_zero, List.set_cons_succ]; with_reducible rfl)
         clear hKc
         intro w2 hw2
         have hKc := hw2.1
         clear hw2)
      | (refine seq_callv (f := 14) (args := ?_) (v := ?_) (a' := ?_) (by rfl) (by rfl) (by rfl) Try.call14 ?_ ?_ ?_ ?_
         rotate_left 3
         · (go_simp; with_reducible rfl)
         · ((with_reducible refine (rof_any A len cap zs _ (HL.out.up (hk0.trans (hk5.trans hKc))) hle HZ.out).mono ?_)
            rintro e w' ⟨rfl, hk⟩
            refine ⟨?_, HS.out _ (hKc.trans hk)⟩
            with_reducible rfl)
         · (simp only [Act.put, List.setIfInBounds_toArray, List.set_cons_zero, List.set_cons_succ]; with_reducible rfl)
         clear hKc
         intro w2 hw2
         have hKc := hw2.1
         clear hw2)
      | (refine seq_callv (f := 15) (args := ?_) (v := ?_) (a' := ?_) (by rfl) (by rfl) (by rfl) Try.call15 ?_ ?_ ?_ ?_
         rotate_left 3
         · (go_simp; with_reducible rfl)
         · ((with_reducible refine (merge_any a b _).mono ?_)
            rintro e w' ⟨rfl, hk⟩
            refine ⟨?_, HS.out _ (hKc.trans hk)⟩
            with_reducible rfl)
         · (simp only [Act.put, List.setIfInBounds_toArray, List.set_cons_zero, List.set_cons_succ]; with_reducible rfl)
         clear hKc
         intro w2 hw2
         have hKc := hw2.1
         clear hw2)
      | (refine seq_callv (f := 16) (args := ?_) (v := ?_) (a' := ?_) (by rfl) (by rfl) (by rfl) Try.call16 ?_ ?_ ?_ ?_
         rotate_left 3
         · (go_simp; with_reducible rfl)
         · ((with_reducible refine (rmerge_any a b _).mono ?_)
            rintro e w' ⟨rfl, hk⟩
            refine ⟨?_, HS.out _ (hKc.trans hk)⟩
            with_reducible rfl)
         · (simp only [Act.put, List.setIfInBounds_toArray, List.set_cons_zero, List.set_cons_succ]; with_reducible rfl)
         clear hKc
         intro w2 hw2
         have hKc := hw2.1
         clear hw2)
      | (refine seq_skip (a' := ?_) (HS.out _ hKc) (by rfl) ?_ ?_
         rotate_left
         · (simp only [Act.put, List.setIfInBounds_toArray, List.set_cons_zero, List.set_cons_succ]; with_reducible rfl)))
    refine seq_nil ?_
    go_wp2
    go_ret
    exact ⟨rfl, hk0.trans (hk5.trans hKc)⟩

theorem AggTells_std (A : Option Addr) (len cap : Nat) (zs : List Int) (a b : Ag) (k : Int) (_ : (Lit.int .i64 k).wf = true) (w : World) (row : Arr .i64 w A len zs) (ha : a.ok) (_ : b.ok) :
    Calls Try.prog 3 #[.slice A len cap, .agg #[.int .i64 a.c, .int .i64 a.s, .int .i64 a.mn, .int .i64 a.mx], .agg #[.int .i64 b.c, .int .i64 b.s, .int .i64 b.mn, .int .i64 b.mx], .int .i64 k] w fun e w' => e = .returned (.bool true) ∧ Below w.heap.size w w' := tells_law A len cap zs a b k w row ha
end Go.Proofs.Ytglokhpgjfoneac
