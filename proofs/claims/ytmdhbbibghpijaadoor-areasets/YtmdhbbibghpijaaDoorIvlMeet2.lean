/- ivl.Meet: the walk. -/
import Derived.Test.YtmdhbbibghpijaaDoorIvlMeet
namespace Go.Proofs.YtmdhbbibghpijaaDoor
open Go.RowKit

theorem run_alloc_sp (o : Oper) (ho : o.op = .alloc 37) (ev : Operand → Value) (w : World) :
    (execOp ev o).run Tryd.prog w = .ok (.value (.pointer (some ⟨w.heap.size, 0, none⟩))) (w.alloc (.cells #[.int .u32 0, .int .u32 0] 37)) := by
  unfold execOp
  rw [ho]
  go_simp
theorem SpAt.free {w : World} {b : Nat} {s : Sp} (h : SpAt w b s) : w.frozen? ⟨b, 0, none⟩ = false ∧ w.frozen? ⟨b, 1, none⟩ = false := by
  unfold SpAt at h
  simp [World.frozen?, h]
theorem run_store_sp (o : Oper) (x y : Operand) (ho : o.op = .store 37 x y) (ev : Operand → Value) (w : World) (b : Nat) (s : Sp) (p q : Int) (hx : ev x = .pointer (some ⟨b, 0, none⟩)) (hy : ev y = .agg #[.int .u32 p, .int .u32 q]) (h : SpAt w b s) :
    (execOp ev o).run Tryd.prog w = .ok .skip ((w.setCell ⟨b, 0, none⟩ (.int .u32 p)).setCell ⟨b, 1, none⟩ (.int .u32 q)) := by
  obtain ⟨c0, c1⟩ := h.cells
  obtain ⟨f0, f1⟩ := h.free
  unfold execOp
  rw [ho]
  go_simp
theorem set_sp {w : World} {b : Nat} {s : Sp} (h : SpAt w b s) (p q : Int) : SpAt ((w.setCell ⟨b, 0, none⟩ (.int .u32 p)).setCell ⟨b, 1, none⟩ (.int .u32 q)) b ⟨p, q⟩ := by
  unfold SpAt at *
  simp only [World.setCell, Array.getElem?_modify, h, if_true, Option.map_some]
  rfl
theorem tail_addr {xc nx : Nat} {p q : Option Addr} (h : nx + 1 ≤ xc) : (if xc = 1 then p else q) = q ∨ nx = 0 := by
  by_cases h1 : xc = 1
  · exact .inr (by omega)
  · exact .inl (if_neg h1)
def slen : Value → Nat
  | .slice _ n _ => n
  | _ => 0
/-- Spans that are only read, and their list. -/
structure Rd (w : World) (B : Nat) (A : Option Addr) (n c : Nat) (zs : List Sp) : Prop where
  prs : SpS w B A n zs
  cap : n ≤ c
theorem Rd.keep {w w' : World} {B : Nat} {A : Option Addr} {n c : Nat} {zs : List Sp} (h : Rd w B A n c zs) (hk : Keep w w') (hB : B ≤ w.heap.size) : Rd w' B A n c zs := ⟨h.prs.keep hk hB, h.cap⟩
theorem Rd.head {w : World} {B : Nat} {A : Option Addr} {n c : Nat} {x : Sp} {xs : List Sp} (h : Rd w B A n c (x :: xs)) : ∃ b off, A = some ⟨b, off, none⟩ ∧ b < B ∧ w.cell? ⟨b, off, none⟩ = some (.int .u32 x.lo) ∧ w.cell? ⟨b, off + 1, none⟩ = some (.int .u32 x.hi) := by
  obtain ⟨b, off, e, hb, c0, c1⟩ := SpS.cells h.prs 0 x rfl
  exact ⟨b, off, e, hb, by simpa using c0, by simpa using c1⟩
theorem Rd.tail {w : World} {B b off n c : Nat} {x : Sp} {xs : List Sp} (h : Rd w B (some ⟨b, off, none⟩) (n + 1) c (x :: xs)) (A' : Option Addr) (hA : A' = some ⟨b, off + 2, none⟩ ∨ n = 0) : Rd w B A' n (c - 1) xs := by
  refine ⟨?_, by have := h.cap; omega⟩
  rcases hA with rfl | rfl
  · have := h.prs.part 1 n (by omega)
    have hlen : xs.length = n := by have := h.prs.len; simp at this; exact this
    rw [List.drop_one, List.tail_cons, List.take_of_length_le (by rw [hlen]; exact Nat.le_refl _), Nat.one_mul] at this
    exact this
  · have hlen : xs.length = 0 := by have := h.prs.len; simpa using this
    have hx : xs = [] := List.eq_nil_of_length_eq_zero hlen
    subst hx
    exact Prs.nil _ _ _

set_option maxRecDepth 100000 in
set_option maxHeartbeats 8000000 in
theorem meet_any (A : Option Addr) (n c : Nat) (us : List Sp) (B : Option Addr) (n2 c2 : Nat) (vs : List Sp) (w : World) (h : Arg w A n c us) (h2 : Arg w B n2 c2 vs) (hn : n ≤ 50000) (hn2 : n2 ≤ 50000) :
    Calls Tryd.prog 34 #[.slice A n c, .slice B n2 c2] w (Gives w (fun k => mem us k ∧ mem vs k) (n + n2)) := by
  have HA := Lib.hid h
  have HB := Lib.hid h2
  obtain ⟨i0, hi, hz0, hz1, hz2⟩ := info_parts infoSp
  clear h h2
  go_enter Tryd.func34, Tryd.ntmps34
  go_wp2_with fail
  go_at_call 60
  refine (setof_any A n c us w HA.out (by omega)).mono ?_
  intro e w1 hg
  obtain ⟨hk1, A1, d1, r, rfl, ha1, hr1, hs1⟩ := hg
  go_wp2_with fail
  go_at_call 60
  refine (setof_any B n2 c2 vs w1 (HB.out.keep hk1) (by omega)).mono ?_
  intro e w2 hg
  obtain ⟨hk2, A2, d2, q, rfl, ha2, hr2, hs2⟩ := hg
  have hk12 := hk1.trans hk2
  have hP : ∀ k, (mem us k ∧ mem vs k) ↔ (mem r k ∧ mem q k) := fun k => by rw [hs1.mem k, hs2.mem k]
  have HP := Lib.hid hP
  have rd1 : Rd w2 w2.heap.size A1 r.length d1 r := ⟨(ha1.keep hk2).prs, ha1.cap⟩
  have rd2 : Rd w2 w2.heap.size A2 q.length d2 q := ⟨ha2.prs, ha2.cap⟩
  have oN : Own w2 w2.heap.size none 0 0 [] := ⟨by simp [prc], .inl ⟨rfl, rfl⟩⟩
  have hst : Mt (fun k => mem r k ∧ mem q k) r q [] (n + n2) := ⟨Rt.nil, by simp, fun k => ⟨fun h => .inr h, fun h => h.elim (fun g => absurd g (mem_nil k)) id⟩, by simp, hs1.rt, hs2.rt, hs1.ok, hs2.ok, by simp; omega⟩
  clear ha1 ha2 hs1 hs2 hk1 hk2 hP
  go_wp2_with fail
  go_loopw [0, 1, 5] (fun u v t wr => ∃ (xs ys ms : List Sp) (Xa Ya Ma : Option Addr) (xc yc mc : Nat), u = .slice Xa xs.length xc ∧ v = .slice Ya ys.length yc ∧ t = .slice Ma ms.length mc ∧ Keep w2 wr ∧ Rd w2 w2.heap.size Xa xs.length xc xs ∧ Rd w2 w2.heap.size Ya ys.length yc ys ∧ Own wr w2.heap.size Ma ms.length mc ms ∧ Mt (fun k => mem r k ∧ mem q k) xs ys ms (n + n2)) (fun u v _ _ => slen u + slen v)
  case atStart => exact ⟨r, q, [], A1, A2, none, d1, d2, 0, rfl, rfl, rfl, Keep.refl _, rd1, rd2, oN, hst⟩
  case round =>
    obtain ⟨xs, ys, ms, Xa, Ya, Ma, xc, yc, mc, rfl, rfl, rfl, hk, rx, ry, hown, hmt⟩ := hrel
    clear rd1 rd2 oN hst
    rcases xs with _ | ⟨x, xs⟩
    · have HO := Lib.hid hown
      have HF := Lib.hid (hmt.done (.inl rfl))
      have hnum := hmt.num
      simp only [List.length_nil] at hnum ⊢
      clear hown hmt rx ry
      go_wp2_with fail
      go_ret
      obtain ⟨q1, q2, q3⟩ := own_gives HO.out
      exact ⟨hk12.trans hk, Ma, mc, ms, rfl, q1, q2, q3.mono hk12.size, by omega, HF.out.congr (fun k => (HP.out k).symm)⟩
    · rcases ys with _ | ⟨y, ys⟩
      · have HO := Lib.hid hown
        have HF := Lib.hid (hmt.done (.inr rfl))
        have hnum := hmt.num
        have hxp : (0 : Int) < ((x :: xs).length : Int) := by simp
        generalize (x :: xs).length = nx at *
        simp only [List.length_nil] at hnum ⊢
        clear hown hmt rx ry
        go_wp2_with fail
        go_ret
        obtain ⟨q1, q2, q3⟩ := own_gives HO.out
        exact ⟨hk12.trans hk, Ma, mc, ms, rfl, q1, q2, q3.mono hk12.size, by omega, HF.out.congr (fun k => (HP.out k).symm)⟩
      · obtain ⟨b1, o1, rfl, hb1, x0, x1⟩ := rx.head
        obtain ⟨b2, o2, rfl, hb2, y0, y1⟩ := ry.head
        obtain ⟨nx, hnx⟩ : ∃ nx, xs.length = nx := ⟨_, rfl⟩
        obtain ⟨ny, hny⟩ : ∃ ny, ys.length = ny := ⟨_, rfl⟩
        simp only [List.length_cons, hnx, hny] at rx ry ⊢
        have HRX := Lib.hid rx
        have HRY := Lib.hid ry
        have HOWN := Lib.hid hown
        have HMT := Lib.hid hmt
        have hxp : (0 : Int) < ((nx + 1 : Nat) : Int) := by omega
        have hyp : (0 : Int) < ((ny + 1 : Nat) : Int) := by omega
        have hcx := rx.cap
        have hcy := ry.cap
        have HNX := Lib.hid (And.intro hnx hny)
        have hxok := hmt.okx x (by simp)
        have hyok := hmt.oky y (by simp)
        clear hown hmt rx ry hnx hny
        go_wp2_with fail
        have HSZ := Lib.hid (show ∀ w', Keep w2 w' → w'.cell? ⟨b1, o1, none⟩ = some (.int .u32 x.lo) ∧ w'.cell? ⟨b1, o1 + 1, none⟩ = some (.int .u32 x.hi) ∧ w'.cell? ⟨b2, o2, none⟩ = some (.int .u32 y.lo) ∧ w'.cell? ⟨b2, o2 + 1, none⟩ = some (.int .u32 y.hi) from
          fun w' h => ⟨(h.cell (p := ⟨b1, o1, none⟩) hb1).trans x0, (h.cell (p := ⟨b1, o1 + 1, none⟩) hb1).trans x1, (h.cell (p := ⟨b2, o2, none⟩) hb2).trans y0, (h.cell (p := ⟨b2, o2 + 1, none⟩) hb2).trans y1⟩)
        clear x0 x1 y0 y1
        have HS := Lib.hid (show ∀ w', Keep wr w' → Keep wr w' ∧ (w'.cell? ⟨b1, o1, none⟩ = some (.int .u32 x.lo) ∧ w'.cell? ⟨b1, o1 + 1, none⟩ = some (.int .u32 x.hi) ∧ w'.cell? ⟨b2, o2, none⟩ = some (.int .u32 y.lo) ∧ w'.cell? ⟨b2, o2 + 1, none⟩ = some (.int .u32 y.hi)) from fun w' h => ⟨h, HSZ.out w' (hk.trans h)⟩)
        have hKc := (Keep.refl wr).drew
        refine seq_region (S := fun w' => Keep wr w' ∧ (w'.cell? ⟨b1, o1, none⟩ = some (.int .u32 x.lo) ∧ w'.cell? ⟨b1, o1 + 1, none⟩ = some (.int .u32 x.hi) ∧ w'.cell? ⟨b2, o2, none⟩ = some (.int .u32 y.lo) ∧ w'.cell? ⟨b2, o2 + 1, none⟩ = some (.int .u32 y.hi))) [⟨0, 1, 524288⟩, ⟨1, 524288, 1048576⟩, ⟨2, 1048576, 2097152⟩, ⟨4, 2097152, 4194304⟩, ⟨0, 2, 8388608⟩, ⟨16, 8388608, 16777216⟩, ⟨32, 16777216, 33554432⟩, ⟨64, 33554432, 67108864⟩, ⟨136, 71303168, 134217728⟩, ⟨0, 1, 268435456⟩, ⟨512, 268435456, 536870912⟩, ⟨1024, 536870912, 1073741824⟩, ⟨2048, 1073741824, 2147483648⟩, ⟨0, 2, 4294967296⟩, ⟨8192, 4294967296, 8589934592⟩, ⟨16384, 8589934592, 17179869184⟩, ⟨32768, 17179869184, 34359738368⟩, ⟨69632, 36507222016, 68719476736⟩, ⟨131328, 68853694464, 137438953472⟩, ⟨0, 0, 64⟩, ⟨1048575, 137438953536, 0⟩] [(0, false), (1, false), (2, false), (3, false), (4, false), (5, false), (6, false), (7, false), (8, false), (9, false), (10, false), (11, false), (12, false), (13, false), (14, false), (15, false), (16, false), (17, false), (18, false), (19, true), (20, true)] rfl (by kernel_rfl) (by kernel_rfl) (fun _ _ d _ _ h => by cases d <;> exact h) (HS.out _ hKc) ?_
        simp only [rowsOf, rowAt, gslot, List.map_cons, List.map_nil, List.getElem?_toArray, List.getElem?_cons_zero, List.getElem?_cons_succ]
        repeat (first
          | (refine seq_take (v := ?_) (a' := ?_) (by rfl) ?_ ?_ ?_
             rotate_left 2
             · (intro w hSw; obtain ⟨-, hSw⟩ := hSw; go_split_ands; go_simp; with_reducible rfl)
             · (simp only [Act.put, List.setIfInBounds_toArray, List.set_cons_zero, List.set_cons_succ]; with_reducible rfl)))
        have hK4 : Keep wr (((wr.drew.alloc (.cells #[.int .u32 0, .int .u32 0] 37)).setCell ⟨wr.heap.size, 0, none⟩ (.int .u32 (max x.lo y.lo))).setCell ⟨wr.heap.size, 1, none⟩ (.int .u32 (min x.hi y.hi))) := Only.keep (hKc.trans ((Keep.refl _).alloc _)) (((Only.refl (fun k => k = wr.heap.size) _).setCell ⟨wr.heap.size, 0, none⟩ (.int .u32 (max x.lo y.lo)) rfl).setCell ⟨wr.heap.size, 1, none⟩ (.int .u32 (min x.hi y.hi)) rfl) (fun k h => by omega)
        have hz1' := SpAt.new wr.drew ⟨0, 0⟩
        refine seq_val (v := .pointer (some ⟨wr.heap.size, 0, none⟩)) (a' := ?_) (by rfl) (run_alloc_sp _ rfl _ _) (HS.out _ (hKc.trans ((Keep.refl _).alloc _))) ?_ ?_
        rotate_left
        · (simp only [Act.put, List.setIfInBounds_toArray, List.set_cons_zero, List.set_cons_succ]; with_reducible rfl)
        refine seq_skp (a' := ?_) (by rfl) (run_store_sp _ _ _ rfl _ _ wr.heap.size ⟨0, 0⟩ (max x.lo y.lo) (min x.hi y.hi) rfl rfl hz1') (HS.out _ hK4) ?_ ?_
        rotate_left
        · (simp only [Act.put]; with_reducible rfl)
        refine seq_nil ?_
        have hS4 : SpAt (((wr.drew.alloc (.cells #[.int .u32 0, .int .u32 0] 37)).setCell ⟨wr.heap.size, 0, none⟩ (.int .u32 (max x.lo y.lo))).setCell ⟨wr.heap.size, 1, none⟩ (.int .u32 (min x.hi y.hi))) wr.heap.size (shr x y) := set_sp hz1' _ _
        have hsok : (shr x y).ok := shr_ok hxok hyok
        obtain ⟨s, hs⟩ : ∃ s, shr x y = s := ⟨_, rfl⟩
        have hslo : max x.lo y.lo = s.lo := by rw [← hs]; rfl
        have hshi : min x.hi y.hi = s.hi := by rw [← hs]; rfl
        rw [hslo, hshi] at hK4 hS4 ⊢
        rw [hs] at hS4 hsok
        have HSH := Lib.hid hs
        clear hslo hshi
        generalize (((wr.drew.alloc (.cells #[.int .u32 0, .int .u32 0] 37)).setCell ⟨wr.heap.size, 0, none⟩ (.int .u32 (s.lo))).setCell ⟨wr.heap.size, 1, none⟩ (.int .u32 (s.hi))) = W4 at *
        have hK := hk.trans hK4
        have HB4 := Lib.hid hS4
        clear hs hz1' hS4 hKc HS
        obtain ⟨e0, e1⟩ := HB4.out.cells
        by_cases hse : s.hi < s.lo
        · have hee : emp s = true := by simp [emp]; omega
          have hadd : addS ms s = ms := by unfold addS; rw [if_pos hse]
          have HADD := Lib.hid hadd
          clear hadd
          go_wp2_with fail
          go_at_call 51
          refine (empty_is s true _ hee).mono ?_
          rintro e W6 ⟨rfl, hK46⟩
          have hKF := hK.trans hK46
          have HOF := Lib.hid (own_keep HOWN.out (hK4.trans hK46))
          clear e0 e1 hK46
          by_cases hlt : x.hi < y.hi
          · have hdl : decide (x.hi < y.hi) = true := decide_eq_true hlt
            have hmt7 := HMT.out.left hlt
            rw [HSH.out, HADD.out] at hmt7
            clear hlt
            have HS := Lib.hid (show ∀ w', Keep W6 w' → Keep W6 w' ∧ (w'.cell? ⟨b1, o1, none⟩ = some (.int .u32 x.lo) ∧ w'.cell? ⟨b1, o1 + 1, none⟩ = some (.int .u32 x.hi) ∧ w'.cell? ⟨b2, o2, none⟩ = some (.int .u32 y.lo) ∧ w'.cell? ⟨b2, o2 + 1, none⟩ = some (.int .u32 y.hi)) from fun w' h => ⟨h, HSZ.out w' (hKF.trans h)⟩)
            have hKc := (Keep.refl W6).drew
            go_wp2_with fail
            refine seq_region (S := fun w' => Keep W6 w' ∧ (w'.cell? ⟨b1, o1, none⟩ = some (.int .u32 x.lo) ∧ w'.cell? ⟨b1, o1 + 1, none⟩ = some (.int .u32 x.hi) ∧ w'.cell? ⟨b2, o2, none⟩ = some (.int .u32 y.lo) ∧ w'.cell? ⟨b2, o2 + 1, none⟩ = some (.int .u32 y.hi))) [⟨0, 1, 35184372088832⟩, ⟨1, 35184372088832, 70368744177664⟩, ⟨2, 70368744177664, 140737488355328⟩, ⟨4, 140737488355328, 281474976710656⟩, ⟨0, 2, 562949953421312⟩, ⟨16, 562949953421312, 1125899906842624⟩, ⟨32, 1125899906842624, 2251799813685248⟩, ⟨64, 2251799813685248, 4503599627370496⟩, ⟨136, 4785074604081152, 9007199254740992⟩] [(0, false), (1, false), (2, false), (3, false), (4, false), (5, false), (6, false), (7, false), (8, false)] rfl (by kernel_rfl) (by kernel_rfl) (fun _ _ d _ _ h => by cases d <;> exact h) (HS.out _ hKc) ?_
            simp only [rowsOf, rowAt, gslot, List.map_cons, List.map_nil, List.getElem?_toArray, List.getElem?_cons_zero, List.getElem?_cons_succ]
            repeat (first
              | (refine seq_take (v := ?_) (a' := ?_) (by rfl) ?_ ?_ ?_
                 rotate_left 2
                 · (intro w hSw; obtain ⟨-, hSw⟩ := hSw; go_split_ands; go_simp; with_reducible rfl)
                 · (simp only [Act.put, List.setIfInBounds_toArray, List.set_cons_zero, List.set_cons_succ]; with_reducible rfl)))
            refine seq_nil ?_
            have hK7 := hKF.trans hKc
            have HO7 := Lib.hid (own_keep HOF.out hKc)
            clear hKc HS hKF HOF
            generalize W6.drew = W7 at *
            go_wp2_with fail
            all_goals
              go_roundw
              case rel =>
                first
                  | exact ⟨xs, y :: ys, ms, _, _, _, _, _, _, by rw [HNX.out.1], by rw [List.length_cons, HNX.out.2], rfl, hK7, by rw [HNX.out.1]; exact HRX.out.tail _ (tail_addr (by omega)), by rw [List.length_cons, HNX.out.2]; exact HRY.out, HO7.out, hmt7⟩
              case measure => simp [slen]
          · have hdl : decide (x.hi < y.hi) = false := decide_eq_false hlt
            have hmt7 := HMT.out.right hlt
            rw [HSH.out, HADD.out] at hmt7
            clear hlt
            have HS := Lib.hid (show ∀ w', Keep W6 w' → Keep W6 w' ∧ (w'.cell? ⟨b1, o1, none⟩ = some (.int .u32 x.lo) ∧ w'.cell? ⟨b1, o1 + 1, none⟩ = some (.int .u32 x.hi) ∧ w'.cell? ⟨b2, o2, none⟩ = some (.int .u32 y.lo) ∧ w'.cell? ⟨b2, o2 + 1, none⟩ = some (.int .u32 y.hi)) from fun w' h => ⟨h, HSZ.out w' (hKF.trans h)⟩)
            have hKc := (Keep.refl W6).drew
            go_wp2_with fail
            refine seq_region (S := fun w' => Keep W6 w' ∧ (w'.cell? ⟨b1, o1, none⟩ = some (.int .u32 x.lo) ∧ w'.cell? ⟨b1, o1 + 1, none⟩ = some (.int .u32 x.hi) ∧ w'.cell? ⟨b2, o2, none⟩ = some (.int .u32 y.lo) ∧ w'.cell? ⟨b2, o2 + 1, none⟩ = some (.int .u32 y.hi))) [⟨0, 1, 35184372088832⟩, ⟨1, 35184372088832, 70368744177664⟩, ⟨2, 70368744177664, 140737488355328⟩, ⟨4, 140737488355328, 281474976710656⟩, ⟨0, 2, 562949953421312⟩, ⟨16, 562949953421312, 1125899906842624⟩, ⟨32, 1125899906842624, 2251799813685248⟩, ⟨64, 2251799813685248, 4503599627370496⟩, ⟨136, 4785074604081152, 9007199254740992⟩] [(0, false), (1, false), (2, false), (3, false), (4, false), (5, false), (6, false), (7, false), (8, false)] rfl (by kernel_rfl) (by kernel_rfl) (fun _ _ d _ _ h => by cases d <;> exact h) (HS.out _ hKc) ?_
            simp only [rowsOf, rowAt, gslot, List.map_cons, List.map_nil, List.getElem?_toArray, List.getElem?_cons_zero, List.getElem?_cons_succ]
            repeat (first
              | (refine seq_take (v := ?_) (a' := ?_) (by rfl) ?_ ?_ ?_
                 rotate_left 2
                 · (intro w hSw; obtain ⟨-, hSw⟩ := hSw; go_split_ands; go_simp; with_reducible rfl)
                 · (simp only [Act.put, List.setIfInBounds_toArray, List.set_cons_zero, List.set_cons_succ]; with_reducible rfl)))
            refine seq_nil ?_
            have hK7 := hKF.trans hKc
            have HO7 := Lib.hid (own_keep HOF.out hKc)
            clear hKc HS hKF HOF
            generalize W6.drew = W7 at *
            go_wp2_with fail
            all_goals
              go_roundw
              case rel =>
                first
                  | exact ⟨x :: xs, ys, ms, _, _, _, _, _, _, by rw [List.length_cons, HNX.out.1], by rw [HNX.out.2], rfl, hK7, by rw [List.length_cons, HNX.out.1]; exact HRX.out, by rw [HNX.out.2]; exact HRY.out.tail _ (tail_addr (by omega)), HO7.out, hmt7⟩
              case measure => simp [slen]
        · have hee : emp s = false := by simp [emp]; omega
          have hadd : addS ms s = ms ++ [s] := by unfold addS; rw [if_neg hse]
          have HADD := Lib.hid hadd
          clear hadd
          go_wp2_with fail
          go_at_call 51
          refine (empty_is s false _ hee).mono ?_
          rintro e w5 ⟨rfl, hk5⟩
          clear e0 e1
          obtain ⟨e0, e1⟩ := (HB4.out.keep hk5).cells
          have hmn := HMT.out.num
          simp only [List.length_cons] at hmn
          have hml : ms.length + 1 ≤ maxLen := by unfold maxLen; omega
          have hby : (ms.length + 1) * 8 ≤ 140737488355328 := by omega
          have hk5a := (hK4.trans hk5).alloc (.cells #[.int .u32 s.lo, .int .u32 s.hi] 37)
          have hbs : w2.heap.size ≤ (w5.alloc (.cells #[.int .u32 s.lo, .int .u32 s.hi] 37)).heap.size := (hk.trans hk5a).size
          have HO5 := Lib.hid (own_keep HOWN.out hk5a)
          have HP5 := Lib.hid (Prs.made (f := fun s : Sp => Value.int .u32 s.lo) (g := fun s : Sp => Value.int .u32 s.hi) w5 #[.int .u32 s.lo, .int .u32 s.hi] 37 [s] rfl)
          go_wp2_with (first
            | (at_builtin; go_must (refine wpList_append_prs rfl _ _ 32 rfl w2.heap.size 37 i0 (.agg #[.int .u32 0, .int .u32 0]) 8 Tryd.underlying32 hi hz0 hz1 hz2 rfl spOne _ ms.length ms rfl HO5.out _ _ 1 1 [s] rfl HP5.out (fun h => by cases h) hml hby hbs ?_); intro M2 m2 W6 hown6 hgrow6 _))
          have hKF : Keep w2 W6 := Only.keep (hk.trans hk5a) (Only.grown (S := fun k => w2.heap.size ≤ k) (Only.refl _ _) hgrow6 (fun k _ e => (HOWN.out.lt k e).1)) (fun k e => e)
          have HOF := Lib.hid (show Own W6 w2.heap.size M2 (ms.length + 1) m2 (ms ++ [s]) by simpa using hown6)
          clear e0 e1 hown6 hgrow6 HO5 HP5 hk5a hbs hk5
          by_cases hlt : x.hi < y.hi
          · have hdl : decide (x.hi < y.hi) = true := decide_eq_true hlt
            have hmt7 := HMT.out.left hlt
            rw [HSH.out, HADD.out] at hmt7
            clear hlt
            have HS := Lib.hid (show ∀ w', Keep W6 w' → Keep W6 w' ∧ (w'.cell? ⟨b1, o1, none⟩ = some (.int .u32 x.lo) ∧ w'.cell? ⟨b1, o1 + 1, none⟩ = some (.int .u32 x.hi) ∧ w'.cell? ⟨b2, o2, none⟩ = some (.int .u32 y.lo) ∧ w'.cell? ⟨b2, o2 + 1, none⟩ = some (.int .u32 y.hi)) from fun w' h => ⟨h, HSZ.out w' (hKF.trans h)⟩)
            have hKc := (Keep.refl W6).drew
            go_wp2_with fail
            refine seq_region (S := fun w' => Keep W6 w' ∧ (w'.cell? ⟨b1, o1, none⟩ = some (.int .u32 x.lo) ∧ w'.cell? ⟨b1, o1 + 1, none⟩ = some (.int .u32 x.hi) ∧ w'.cell? ⟨b2, o2, none⟩ = some (.int .u32 y.lo) ∧ w'.cell? ⟨b2, o2 + 1, none⟩ = some (.int .u32 y.hi))) [⟨0, 1, 35184372088832⟩, ⟨1, 35184372088832, 70368744177664⟩, ⟨2, 70368744177664, 140737488355328⟩, ⟨4, 140737488355328, 281474976710656⟩, ⟨0, 2, 562949953421312⟩, ⟨16, 562949953421312, 1125899906842624⟩, ⟨32, 1125899906842624, 2251799813685248⟩, ⟨64, 2251799813685248, 4503599627370496⟩, ⟨136, 4785074604081152, 9007199254740992⟩] [(0, false), (1, false), (2, false), (3, false), (4, false), (5, false), (6, false), (7, false), (8, false)] rfl (by kernel_rfl) (by kernel_rfl) (fun _ _ d _ _ h => by cases d <;> exact h) (HS.out _ hKc) ?_
            simp only [rowsOf, rowAt, gslot, List.map_cons, List.map_nil, List.getElem?_toArray, List.getElem?_cons_zero, List.getElem?_cons_succ]
            repeat (first
              | (refine seq_take (v := ?_) (a' := ?_) (by rfl) ?_ ?_ ?_
                 rotate_left 2
                 · (intro w hSw; obtain ⟨-, hSw⟩ := hSw; go_split_ands; go_simp; with_reducible rfl)
                 · (simp only [Act.put, List.setIfInBounds_toArray, List.set_cons_zero, List.set_cons_succ]; with_reducible rfl)))
            refine seq_nil ?_
            have hK7 := hKF.trans hKc
            have HO7 := Lib.hid (own_keep HOF.out hKc)
            clear hKc HS hKF HOF
            generalize W6.drew = W7 at *
            go_wp2_with fail
            all_goals
              go_roundw
              case rel =>
                first
                  | exact ⟨xs, y :: ys, ms ++ [s], _, _, _, _, _, _, by rw [HNX.out.1], by rw [List.length_cons, HNX.out.2], by rw [List.length_append]; rfl, hK7, by rw [HNX.out.1]; exact HRX.out.tail _ (tail_addr (by omega)), by rw [List.length_cons, HNX.out.2]; exact HRY.out, by simpa using HO7.out, hmt7⟩
              case measure => simp [slen]
          · have hdl : decide (x.hi < y.hi) = false := decide_eq_false hlt
            have hmt7 := HMT.out.right hlt
            rw [HSH.out, HADD.out] at hmt7
            clear hlt
            have HS := Lib.hid (show ∀ w', Keep W6 w' → Keep W6 w' ∧ (w'.cell? ⟨b1, o1, none⟩ = some (.int .u32 x.lo) ∧ w'.cell? ⟨b1, o1 + 1, none⟩ = some (.int .u32 x.hi) ∧ w'.cell? ⟨b2, o2, none⟩ = some (.int .u32 y.lo) ∧ w'.cell? ⟨b2, o2 + 1, none⟩ = some (.int .u32 y.hi)) from fun w' h => ⟨h, HSZ.out w' (hKF.trans h)⟩)
            have hKc := (Keep.refl W6).drew
            go_wp2_with fail
            refine seq_region (S := fun w' => Keep W6 w' ∧ (w'.cell? ⟨b1, o1, none⟩ = some (.int .u32 x.lo) ∧ w'.cell? ⟨b1, o1 + 1, none⟩ = some (.int .u32 x.hi) ∧ w'.cell? ⟨b2, o2, none⟩ = some (.int .u32 y.lo) ∧ w'.cell? ⟨b2, o2 + 1, none⟩ = some (.int .u32 y.hi))) [⟨0, 1, 35184372088832⟩, ⟨1, 35184372088832, 70368744177664⟩, ⟨2, 70368744177664, 140737488355328⟩, ⟨4, 140737488355328, 281474976710656⟩, ⟨0, 2, 562949953421312⟩, ⟨16, 562949953421312, 1125899906842624⟩, ⟨32, 1125899906842624, 2251799813685248⟩, ⟨64, 2251799813685248, 4503599627370496⟩, ⟨136, 4785074604081152, 9007199254740992⟩] [(0, false), (1, false), (2, false), (3, false), (4, false), (5, false), (6, false), (7, false), (8, false)] rfl (by kernel_rfl) (by kernel_rfl) (fun _ _ d _ _ h => by cases d <;> exact h) (HS.out _ hKc) ?_
            simp only [rowsOf, rowAt, gslot, List.map_cons, List.map_nil, List.getElem?_toArray, List.getElem?_cons_zero, List.getElem?_cons_succ]
            repeat (first
              | (refine seq_take (v := ?_) (a' := ?_) (by rfl) ?_ ?_ ?_
                 rotate_left 2
                 · (intro w hSw; obtain ⟨-, hSw⟩ := hSw; go_split_ands; go_simp; with_reducible rfl)
                 · (simp only [Act.put, List.setIfInBounds_toArray, List.set_cons_zero, List.set_cons_succ]; with_reducible rfl)))
            refine seq_nil ?_
            have hK7 := hKF.trans hKc
            have HO7 := Lib.hid (own_keep HOF.out hKc)
            clear hKc HS hKF HOF
            generalize W6.drew = W7 at *
            go_wp2_with fail
            all_goals
              go_roundw
              case rel =>
                first
                  | exact ⟨x :: xs, ys, ms ++ [s], _, _, _, _, _, _, by rw [List.length_cons, HNX.out.1], by rw [HNX.out.2], by rw [List.length_append]; rfl, hK7, by rw [List.length_cons, HNX.out.1]; exact HRX.out, by rw [HNX.out.2]; exact HRY.out.tail _ (tail_addr (by omega)), by simpa using HO7.out, hmt7⟩
              case measure => simp [slen]
end Go.Proofs.YtmdhbbibghpijaaDoor
