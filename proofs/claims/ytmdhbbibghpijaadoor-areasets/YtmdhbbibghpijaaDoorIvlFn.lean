/- ivl's small functions: empty, apart, Right; slices.Equal, IndexFunc; Has. -/
import Derived.Test.YtmdhbbibghpijaaDoorProg
import Derived.Test.YtmdhbbibghpijaaDoorIvlMath
import Derived.Test.YtmdhbbibghpijaaDoorSeq
import Derived.OwnWalk
namespace Go.Proofs.YtmdhbbibghpijaaDoor
open Go.RowKit

/-- A span that lies in block b. -/
def SpAt (w : World) (b : Nat) (s : Sp) : Prop := w.heap[b]? = some (.cells #[.int .u32 s.lo, .int .u32 s.hi] 37 (0, 0))
theorem SpAt.keep {w w' : World} {b : Nat} {s : Sp} (h : SpAt w b s) (hk : Keep w w') : SpAt w' b s := (hk.block b (Array.getElem?_eq_some_iff.1 h).1).trans h
theorem SpAt.new (w : World) (s : Sp) : SpAt (w.alloc (.cells #[.int .u32 s.lo, .int .u32 s.hi] 37)) w.heap.size s := World.alloc_heap_new _ _
theorem SpAt.cells {w : World} {b : Nat} {s : Sp} (h : SpAt w b s) : w.cell? ⟨b, 0, none⟩ = some (.int .u32 s.lo) ∧ w.cell? ⟨b, 1, none⟩ = some (.int .u32 s.hi) := by
  unfold SpAt at h
  simp [World.cell?, h]
theorem SpAt.two (w : World) (a b : Sp) : SpAt ((w.alloc (.cells #[.int .u32 a.lo, .int .u32 a.hi] 37)).alloc (.cells #[.int .u32 b.lo, .int .u32 b.hi] 37)) w.heap.size a ∧
    SpAt ((w.alloc (.cells #[.int .u32 a.lo, .int .u32 a.hi] 37)).alloc (.cells #[.int .u32 b.lo, .int .u32 b.hi] 37)) (w.heap.size + 1) b := by
  refine ⟨(SpAt.new w a).keep ((Keep.refl _).alloc _), ?_⟩
  have := SpAt.new (w.alloc (.cells #[.int .u32 a.lo, .int .u32 a.hi] 37)) b
  rw [World.size_alloc] at this
  exact this
/-- A slice of spans. -/
abbrev SpS (w : World) (B : Nat) (A : Option Addr) (n : Nat) (zs : List Sp) : Prop := Prs (fun s : Sp => Value.int .u32 s.lo) (fun s : Sp => Value.int .u32 s.hi) w B A n zs
theorem SpS.cells {w : World} {B : Nat} {A : Option Addr} {n : Nat} {zs : List Sp} (h : SpS w B A n zs) (j : Nat) (z : Sp) (hj : zs[j]? = some z) :
    ∃ b off, A = some ⟨b, off, none⟩ ∧ b < B ∧ w.cell? ⟨b, off + j * 2, none⟩ = some (.int .u32 z.lo) ∧ w.cell? ⟨b, off + j * 2 + 1, none⟩ = some (.int .u32 z.hi) := h.get j z hj
theorem spOne : ∀ z : Sp, (Value.int .u32 z.lo).oneCell' = true ∧ (Value.int .u32 z.hi).oneCell' = true := fun _ => ⟨rfl, rfl⟩
theorem infoSp : (Tryd.prog.info? 37).map (fun i => (i.zero, i.size, i.bytes)) = some (some (.agg #[.int .u32 0, .int .u32 0]), 2, 8) := by kernel_rfl

def emp (s : Sp) : Bool := decide (s.hi < s.lo)
theorem empty_any (s : Sp) (w : World) : Calls Tryd.prog 51 #[.agg #[.int .u32 s.lo, .int .u32 s.hi]] w fun e w' => e = .returned (.bool (emp s)) ∧ Keep w w' := by
  go_enter Tryd.func51, Tryd.ntmps51
  go_wp2
  go_ret
  exact ⟨rfl, (Keep.refl w).alloc _⟩
/-- Is some key behind a and ahead of b? -/
def apt (a b : Sp) : Bool := decide (a.hi + 1 < b.lo)
theorem apart_any (a b : Sp) (w : World) (ha : a.ok) (hb : b.ok) : Calls Tryd.prog 55 #[.agg #[.int .u32 a.lo, .int .u32 a.hi], .agg #[.int .u32 b.lo, .int .u32 b.hi]] w fun e w' => e = .returned (.bool (apt a b)) ∧ Keep w w' := by
  obtain ⟨⟨a1, a2⟩, a3, a4⟩ := ha
  obtain ⟨⟨b1, b2⟩, b3, b4⟩ := hb
  by_cases h : a.hi < b.lo
  · have hw : IntKind.u32.wrap (b.lo - a.hi) = b.lo - a.hi := by rw [IntKind.wrap_u32]; omega
    have e : apt a b = decide (1 < b.lo - a.hi) := by unfold apt; rw [Bool.eq_iff_iff]; simp; omega
    have HE := Lib.hid e
    clear e
    go_enter Tryd.func55, Tryd.ntmps55
    go_wp2
    go_ret
    exact ⟨by rw [HE.out]; rfl, ((Keep.refl w).alloc _).alloc _⟩
  · have hd : decide (a.hi < b.lo) = false := decide_eq_false h
    have e : apt a b = false := by unfold apt; simp; omega
    have HE := Lib.hid e
    clear e
    go_enter Tryd.func55, Tryd.ntmps55
    go_wp2
    go_ret
    exact ⟨by rw [HE.out]; rfl, ((Keep.refl w).alloc _).alloc _⟩

theorem empty_is (s : Sp) (v : Bool) (w : World) (h : emp s = v) : Calls Tryd.prog 51 #[.agg #[.int .u32 s.lo, .int .u32 s.hi]] w fun e w' => e = .returned (.bool v) ∧ Keep w w' := h ▸ empty_any s w
theorem apart_is (a b : Sp) (v : Bool) (w : World) (ha : a.ok) (hb : b.ok) (h : apt a b = v) : Calls Tryd.prog 55 #[.agg #[.int .u32 a.lo, .int .u32 a.hi], .agg #[.int .u32 b.lo, .int .u32 b.hi]] w fun e w' => e = .returned (.bool v) ∧ Keep w w' := h ▸ apart_any a b w ha hb
/-- Are spans a set? (span by span) -/
def rtB : List Sp → Bool
  | [] => true
  | [s] => !emp s
  | s :: t :: zs => !emp s && (apt s t && rtB (t :: zs))
theorem rtB_iff : ∀ {zs : List Sp}, rtB zs = true ↔ Rt zs
  | [] => ⟨fun _ => Rt.nil, fun _ => rfl⟩
  | [s] => by
    unfold rtB emp Rt
    simp
  | s :: t :: zs => by
    rw [rtB, Bool.and_eq_true, Bool.and_eq_true, rtB_iff]
    unfold emp apt
    simp only [Bool.not_eq_true', decide_eq_false_iff_not, decide_eq_true_eq]
    constructor
    · rintro ⟨h1, h2, h3⟩
      refine ⟨fun x hx => ?_, List.pairwise_cons.2 ⟨fun x hx => ?_, h3.2⟩⟩
      · rcases List.mem_cons.1 hx with rfl | hx
        · omega
        · exact h3.1 x hx
      · rcases List.mem_cons.1 hx with rfl | hx
        · exact h2
        · have := (List.pairwise_cons.1 h3.2).1 x hx
          have := h3.1 t (by simp)
          omega
    · intro h
      exact ⟨by have := h.1 s (by simp); omega, (List.pairwise_cons.1 h.2).1 t (by simp), h.tail⟩
/-- At the j-th: it is empty, or not apart from the one ahead. -/
def badAt (zs : List Sp) (j : Nat) : Prop := ∃ x, zs[j]? = some x ∧ (emp x = true ∨ ∃ y, 0 < j ∧ zs[j - 1]? = some y ∧ apt y x = false)
theorem rt_of_good {zs : List Sp} (h : ∀ j, ¬ badAt zs j) : Rt zs := by
  rw [← rtB_iff]
  induction zs with
  | nil => rfl
  | cons s zs ih =>
    have h0 : emp s = false := by
      cases he : emp s
      · rfl
      · exact absurd ⟨s, rfl, .inl he⟩ (h 0)
    have htail : ∀ j, ¬ badAt zs j := by
      rintro j ⟨x, hx, h1⟩
      refine h (j + 1) ⟨x, by simpa using hx, ?_⟩
      rcases h1 with h1 | ⟨y, hj, hy, h1⟩
      · exact .inl h1
      · refine .inr ⟨y, by omega, ?_, h1⟩
        rw [show j + 1 - 1 = (j - 1) + 1 from by omega]
        simpa using hy
    cases zs with
    | nil => simp [rtB, h0]
    | cons t zs =>
      have h1 : apt s t = true := by
        cases he : apt s t
        · exact absurd ⟨t, rfl, .inr ⟨s, by omega, rfl, he⟩⟩ (h 1)
        · rfl
      rw [rtB, h0, h1, ih htail]
      rfl
theorem not_rt_of_bad {zs : List Sp} {j : Nat} (h : badAt zs j) : ¬ Rt zs := by
  rintro ⟨h1, h2⟩
  obtain ⟨x, hx, he | ⟨y, hj, hy, ha⟩⟩ := h
  · have := h1 x (List.mem_of_getElem? hx)
    unfold emp at he
    simp at he
    omega
  · have hjl := (List.getElem?_eq_some_iff.1 hx).1
    have := List.pairwise_iff_getElem.1 h2 (j - 1) j (by omega) hjl (by omega)
    rw [(List.getElem?_eq_some_iff.1 hx).2, (List.getElem?_eq_some_iff.1 hy).2] at this
    unfold apt at ha
    simp at ha
    omega

set_option maxRecDepth 100000 in
set_option maxHeartbeats 2000000 in
theorem right_any (A : Option Addr) (n c : Nat) (zs : List Sp) (v : Bool) (w : World) (h : SpS w w.heap.size A n zs) (hok : ∀ s ∈ zs, s.ok) (hn : n ≤ 1000000) (hv : v = true ↔ Rt zs) :
    Calls Tryd.prog 75 #[.slice A n c] w fun e w' => e = .returned (.bool v) ∧ Keep w w' := by
  have HP := Lib.hid h
  have HN := Lib.hid h.len
  have HOK := Lib.hid hok
  have HV := Lib.hid hv
  clear h hok hv
  go_enter Tryd.func75, Tryd.ntmps75
  go_wp2_with fail
  go_loopw [7] (fun i wr => ∃ (j : Nat), j ≤ n ∧ i = .int .i64 j ∧ Keep w wr ∧ Hid (∀ k, k < j → ¬ badAt zs k)) (fun i _ => n - (intOf i).toNat)
  case atStart => exact ⟨0, Nat.zero_le _, rfl, Keep.refl _, Lib.hid (fun k hk => by omega)⟩
  case round =>
    obtain ⟨j, hj, rfl, hk, hno⟩ := hrel
    by_cases hlt : j < n
    · have hlj : j < zs.length := by rw [HN.out]; exact hlt
      obtain ⟨x, hx⟩ : ∃ x, zs[j]? = some x := ⟨_, List.getElem?_eq_getElem hlj⟩
      have hxok := HOK.out x (List.mem_of_getElem? hx)
      obtain ⟨b, off, rfl, hb, c0, c1⟩ := SpS.cells (HP.out.keep hk (Nat.le_refl _)) j x hx
      have HX := Lib.hid hx
      have HXA := Lib.hid (SpAt.new wr x)
      have hn6 : (n : Int) ≤ 1000000 := by omega
      have hbw := Nat.lt_of_lt_of_le hb hk.size
      clear hx hlj
      rcases Nat.eq_zero_or_pos j with hj0 | hj0
      · subst hj0
        simp only [Nat.zero_mul, Nat.add_zero] at c0 c1
        have HS := Lib.hid (show ∀ w', Keep (wr.alloc (.cells #[.int .u32 x.lo, .int .u32 x.hi] 37)) w' → Keep (wr.alloc (.cells #[.int .u32 x.lo, .int .u32 x.hi] 37)) w' ∧ (w'.cell? ⟨wr.heap.size, 0, none⟩ = some (.int .u32 x.lo) ∧ w'.cell? ⟨wr.heap.size, 1, none⟩ = some (.int .u32 x.hi)) from
          fun w' h => ⟨h, (HXA.out.keep h).cells⟩)
        have hKc := (Keep.refl (wr.alloc (.cells #[.int .u32 x.lo, .int .u32 x.hi] 37))).drew
        cases he : emp x
        · go_wp2_with fail
          refine seq_region (S := fun w' => Keep (wr.alloc (.cells #[.int .u32 x.lo, .int .u32 x.hi] 37)) w' ∧ (w'.cell? ⟨wr.heap.size, 0, none⟩ = some (.int .u32 x.lo) ∧ w'.cell? ⟨wr.heap.size, 1, none⟩ = some (.int .u32 x.hi))) [⟨0, 16, 4096⟩, ⟨1, 4096, 8192⟩, ⟨2, 8192, 16384⟩, ⟨4, 16392, 32768⟩, ⟨12, 49152, 65536⟩, ⟨20, 81920, 131072⟩, ⟨32, 131073, 262144⟩, ⟨32, 131080, 524288⟩, ⟨160, 655360, 1048576⟩, ⟨352, 1441792, 2097152⟩, ⟨544, 2228224, 4194304⟩, ⟨32, 131088, 8388608⟩, ⟨3104, 12713984, 16777216⟩, ⟨4128, 16908288, 33554432⟩, ⟨8228, 33701888, 67108864⟩, ⟨16388, 67125248, 134217728⟩] [(0, false), (1, true), (2, false), (3, false), (4, false), (5, false), (6, false), (7, false), (8, false), (9, false), (10, false), (11, false), (12, true), (13, false), (14, false), (15, false)] rfl (by kernel_rfl) (by kernel_rfl) (fun _ _ d _ _ h => by cases d <;> exact h) (HS.out _ hKc) ?_
          simp only [rowsOf, rowAt, gslot, List.map_cons, List.map_nil, List.getElem?_toArray, List.getElem?_cons_zero, List.getElem?_cons_succ, Option.bind_some]
          repeat (first
            | (refine seq_take (v := ?_) (a' := ?_) (by rfl) ?_ ?_ ?_
               rotate_left 2
               · (intro w hSw; obtain ⟨-, hSw⟩ := hSw; go_split_ands; go_simp; with_reducible rfl)
               · (simp only [Act.put, List.setIfInBounds_toArray, List.set_cons_zero, List.set_cons_succ]; with_reducible rfl))
            | (refine seq_callv (f := 51) (args := ?_) (v := ?_) (a' := ?_) (by rfl) (by rfl) (by rfl) Tryd.call51 ?_ ?_ ?_ ?_
               rotate_left 3
               · (go_simp; with_reducible rfl)
               · ((with_reducible refine (empty_is x false _ he).mono ?_)
                  rintro e w' ⟨rfl, hk⟩
                  refine ⟨?_, HS.out _ (hKc.trans hk)⟩
                  with_reducible rfl)
               · (simp only [Act.put, List.setIfInBounds_toArray, List.set_cons_zero, List.set_cons_succ]; with_reducible rfl)
               clear hKc
               intro w2 hw2
               have hKc := hw2.1
               clear hw2)
            | (refine seq_skip (a' := ?_) (HS.out _ hKc) (by rfl) ?_ ?_
               rotate_left
               · (simp only [Act.put, List.setIfInBounds_toArray, List.set_cons_zero, List.set_cons_succ]; with_reducible rfl)))
          refine seq_nil ?_
          go_wp2_with fail
          go_roundw
          case rel =>
            refine ⟨0 + 1, hlt, by go_num, (hk.alloc _).trans hKc, Lib.hid (fun k hkj => ?_)⟩
            rcases Nat.lt_or_ge k (0) with hlk | hge
            · exact hno.out k hlk
            · obtain rfl : k = 0 := by omega
              rintro ⟨x', hx', hb'⟩
              rw [HX.out] at hx'
              cases hx'
              rcases hb' with hb' | ⟨y', hy0, hy', ha'⟩
              · rw [he] at hb'
                cases hb'
              · exact absurd hy0 (by omega)
          case measure => simp [intOf]; omega
        · go_wp2_with fail
          refine seq_region (S := fun w' => Keep (wr.alloc (.cells #[.int .u32 x.lo, .int .u32 x.hi] 37)) w' ∧ (w'.cell? ⟨wr.heap.size, 0, none⟩ = some (.int .u32 x.lo) ∧ w'.cell? ⟨wr.heap.size, 1, none⟩ = some (.int .u32 x.hi))) [⟨0, 16, 4096⟩, ⟨1, 4096, 8192⟩, ⟨2, 8192, 16384⟩, ⟨4, 16392, 32768⟩, ⟨12, 49152, 65536⟩, ⟨20, 81920, 131072⟩, ⟨32, 131073, 262144⟩, ⟨32, 131080, 524288⟩, ⟨160, 655360, 1048576⟩, ⟨352, 1441792, 2097152⟩, ⟨544, 2228224, 4194304⟩, ⟨32, 131088, 8388608⟩, ⟨3104, 12713984, 16777216⟩, ⟨4128, 16908288, 33554432⟩, ⟨8228, 33701888, 67108864⟩, ⟨16388, 67125248, 134217728⟩] [(0, false), (1, true), (2, false), (3, false), (4, false), (5, false), (6, false), (7, false), (8, false), (9, false), (10, false), (11, false), (12, true), (13, false), (14, false), (15, false)] rfl (by kernel_rfl) (by kernel_rfl) (fun _ _ d _ _ h => by cases d <;> exact h) (HS.out _ hKc) ?_
          simp only [rowsOf, rowAt, gslot, List.map_cons, List.map_nil, List.getElem?_toArray, List.getElem?_cons_zero, List.getElem?_cons_succ, Option.bind_some]
          repeat (first
            | (refine seq_take (v := ?_) (a' := ?_) (by rfl) ?_ ?_ ?_
               rotate_left 2
               · (intro w hSw; obtain ⟨-, hSw⟩ := hSw; go_split_ands; go_simp; with_reducible rfl)
               · (simp only [Act.put, List.setIfInBounds_toArray, List.set_cons_zero, List.set_cons_succ]; with_reducible rfl))
            | (refine seq_callv (f := 51) (args := ?_) (v := ?_) (a' := ?_) (by rfl) (by rfl) (by rfl) Tryd.call51 ?_ ?_ ?_ ?_
               rotate_left 3
               · (go_simp; with_reducible rfl)
               · ((with_reducible refine (empty_is x true _ he).mono ?_)
                  rintro e w' ⟨rfl, hk⟩
                  refine ⟨?_, HS.out _ (hKc.trans hk)⟩
                  with_reducible rfl)
               · (simp only [Act.put, List.setIfInBounds_toArray, List.set_cons_zero, List.set_cons_succ]; with_reducible rfl)
               clear hKc
               intro w2 hw2
               have hKc := hw2.1
               clear hw2)
            | (refine seq_skip (a' := ?_) (HS.out _ hKc) (by rfl) ?_ ?_
               rotate_left
               · (simp only [Act.put, List.setIfInBounds_toArray, List.set_cons_zero, List.set_cons_succ]; with_reducible rfl)))
          refine seq_nil ?_
          have hbad : badAt zs 0 := ⟨x, HX.out, .inl he⟩
          have hvf : v = false := by
            cases hv : v
            · rfl
            · exact absurd (HV.out.1 hv) (not_rt_of_bad hbad)
          have HVF := Lib.hid hvf
          clear hvf
          go_wp2_with fail
          go_ret
          exact ⟨by rw [HVF.out]; rfl, (hk.alloc _).trans hKc⟩
      · obtain ⟨y, hy⟩ : ∃ y, zs[j - 1]? = some y := ⟨_, List.getElem?_eq_getElem (by rw [HN.out]; omega)⟩
        have hyok := HOK.out y (List.mem_of_getElem? hy)
        obtain ⟨b2, off2, e2, -, d0, d1⟩ := SpS.cells (HP.out.keep hk (Nat.le_refl _)) (j - 1) y hy
        cases e2
        obtain ⟨q, hq⟩ : ∃ q, j = q + 1 := ⟨j - 1, by omega⟩
        subst hq
        rw [show q + 1 - 1 = q from rfl] at d0 d1 hy
        have HY := Lib.hid hy
        have HD := Lib.hid (And.intro d0 d1)
        clear hy d0 d1
        have hqi : ((q + 1 : Nat) : Int) - 1 = (q : Int) := by omega
        have hqp : 0 < ((q + 1 : Nat) : Int) := by omega
        have hqn : (q : Int) < (n : Int) := by omega
        have hwq : IntKind.i64.wrap (q : Int) = (q : Int) := by rw [IntKind.wrap_i64]; omega
        have hqn1 : (q : Int) + 1 < (n : Int) := by omega
        have HS := Lib.hid (show ∀ w', Keep (wr.alloc (.cells #[.int .u32 x.lo, .int .u32 x.hi] 37)) w' → Keep (wr.alloc (.cells #[.int .u32 x.lo, .int .u32 x.hi] 37)) w' ∧ ((w'.cell? ⟨wr.heap.size, 0, none⟩ = some (.int .u32 x.lo) ∧ w'.cell? ⟨wr.heap.size, 1, none⟩ = some (.int .u32 x.hi)) ∧ (w'.cell? ⟨b, off + q * 2, none⟩ = some (.int .u32 y.lo) ∧ w'.cell? ⟨b, off + q * 2 + 1, none⟩ = some (.int .u32 y.hi))) from
          fun w' h => ⟨h, (HXA.out.keep h).cells, (((Keep.refl wr).alloc _).trans h).cell (p := ⟨b, off + q * 2, none⟩) hbw |>.trans HD.out.1, (((Keep.refl wr).alloc _).trans h).cell (p := ⟨b, off + q * 2 + 1, none⟩) hbw |>.trans HD.out.2⟩)
        have hKc := (Keep.refl (wr.alloc (.cells #[.int .u32 x.lo, .int .u32 x.hi] 37))).drew
        cases he : emp x
        · cases ha : apt y x
          · go_wp2_with fail
            refine seq_region (S := fun w' => Keep (wr.alloc (.cells #[.int .u32 x.lo, .int .u32 x.hi] 37)) w' ∧ ((w'.cell? ⟨wr.heap.size, 0, none⟩ = some (.int .u32 x.lo) ∧ w'.cell? ⟨wr.heap.size, 1, none⟩ = some (.int .u32 x.hi)) ∧ (w'.cell? ⟨b, off + q * 2, none⟩ = some (.int .u32 y.lo) ∧ w'.cell? ⟨b, off + q * 2 + 1, none⟩ = some (.int .u32 y.hi)))) [⟨0, 16, 4096⟩, ⟨1, 4096, 8192⟩, ⟨2, 8192, 16384⟩, ⟨4, 16392, 32768⟩, ⟨12, 49152, 65536⟩, ⟨20, 81920, 131072⟩, ⟨32, 131073, 262144⟩, ⟨32, 131080, 524288⟩, ⟨160, 655360, 1048576⟩, ⟨352, 1441792, 2097152⟩, ⟨544, 2228224, 4194304⟩, ⟨32, 131088, 8388608⟩, ⟨3104, 12713984, 16777216⟩, ⟨4128, 16908288, 33554432⟩, ⟨8228, 33701888, 67108864⟩, ⟨16388, 67125248, 134217728⟩] [(0, false), (1, true), (2, false), (3, false), (4, false), (5, false), (6, false), (7, false), (8, false), (9, false), (10, false), (11, false), (12, true), (13, false), (14, false), (15, false)] rfl (by kernel_rfl) (by kernel_rfl) (fun _ _ d _ _ h => by cases d <;> exact h) (HS.out _ hKc) ?_
            simp only [rowsOf, rowAt, gslot, List.map_cons, List.map_nil, List.getElem?_toArray, List.getElem?_cons_zero, List.getElem?_cons_succ, Option.bind_some]
            repeat (first
              | (refine seq_take (v := ?_) (a' := ?_) (by rfl) ?_ ?_ ?_
                 rotate_left 2
                 · (intro w hSw; obtain ⟨-, hSw⟩ := hSw; go_split_ands; go_simp; with_reducible rfl)
                 · (simp only [Act.put, List.setIfInBounds_toArray, List.set_cons_zero, List.set_cons_succ]; with_reducible rfl))
              | (refine seq_callv (f := 51) (args := ?_) (v := ?_) (a' := ?_) (by rfl) (by rfl) (by rfl) Tryd.call51 ?_ ?_ ?_ ?_
                 rotate_left 3
                 · (go_simp; with_reducible rfl)
                 · ((with_reducible refine (empty_is x false _ he).mono ?_)
                    rintro e w' ⟨rfl, hk⟩
                    refine ⟨?_, HS.out _ (hKc.trans hk)⟩
                    with_reducible rfl)
                 · (simp only [Act.put, List.setIfInBounds_toArray, List.set_cons_zero, List.set_cons_succ]; with_reducible rfl)
                 clear hKc
                 intro w2 hw2
                 have hKc := hw2.1
                 clear hw2)
              | (refine seq_callv (f := 55) (args := ?_) (v := ?_) (a' := ?_) (by rfl) (by rfl) (by rfl) Tryd.call55 ?_ ?_ ?_ ?_
                 rotate_left 3
                 · (go_simp; with_reducible rfl)
                 · ((with_reducible refine (apart_is y x false _ hyok hxok ha).mono ?_)
                    rintro e w' ⟨rfl, hk⟩
                    refine ⟨?_, HS.out _ (hKc.trans hk)⟩
                    with_reducible rfl)
                 · (simp only [Act.put, List.setIfInBounds_toArray, List.set_cons_zero, List.set_cons_succ]; with_reducible rfl)
                 clear hKc
                 intro w2 hw2
                 have hKc := hw2.1
                 clear hw2)
              | (refine seq_skip (a' := ?_) (HS.out _ hKc) (by rfl) ?_ ?_
                 rotate_left
                 · (simp only [Act.put, List.setIfInBounds_toArray, List.set_cons_zero, List.set_cons_succ]; with_reducible rfl)))
            refine seq_nil ?_
            have hbad : badAt zs (q + 1) := ⟨x, HX.out, .inr ⟨y, by omega, HY.out, ha⟩⟩
            have hvf : v = false := by
              cases hv : v
              · rfl
              · exact absurd (HV.out.1 hv) (not_rt_of_bad hbad)
            have HVF := Lib.hid hvf
            clear hvf
            go_wp2_with fail
            go_ret
            exact ⟨by rw [HVF.out]; rfl, (hk.alloc _).trans hKc⟩
          · go_wp2_with fail
            refine seq_region (S := fun w' => Keep (wr.alloc (.cells #[.int .u32 x.lo, .int .u32 x.hi] 37)) w' ∧ ((w'.cell? ⟨wr.heap.size, 0, none⟩ = some (.int .u32 x.lo) ∧ w'.cell? ⟨wr.heap.size, 1, none⟩ = some (.int .u32 x.hi)) ∧ (w'.cell? ⟨b, off + q * 2, none⟩ = some (.int .u32 y.lo) ∧ w'.cell? ⟨b, off + q * 2 + 1, none⟩ = some (.int .u32 y.hi)))) [⟨0, 16, 4096⟩, ⟨1, 4096, 8192⟩, ⟨2, 8192, 16384⟩, ⟨4, 16392, 32768⟩, ⟨12, 49152, 65536⟩, ⟨20, 81920, 131072⟩, ⟨32, 131073, 262144⟩, ⟨32, 131080, 524288⟩, ⟨160, 655360, 1048576⟩, ⟨352, 1441792, 2097152⟩, ⟨544, 2228224, 4194304⟩, ⟨32, 131088, 8388608⟩, ⟨3104, 12713984, 16777216⟩, ⟨4128, 16908288, 33554432⟩, ⟨8228, 33701888, 67108864⟩, ⟨16388, 67125248, 134217728⟩] [(0, false), (1, true), (2, false), (3, false), (4, false), (5, false), (6, false), (7, false), (8, false), (9, false), (10, false), (11, false), (12, true), (13, false), (14, false), (15, false)] rfl (by kernel_rfl) (by kernel_rfl) (fun _ _ d _ _ h => by cases d <;> exact h) (HS.out _ hKc) ?_
            simp only [rowsOf, rowAt, gslot, List.map_cons, List.map_nil, List.getElem?_toArray, List.getElem?_cons_zero, List.getElem?_cons_succ, Option.bind_some]
            repeat (first
              | (refine seq_take (v := ?_) (a' := ?_) (by rfl) ?_ ?_ ?_
                 rotate_left 2
                 · (intro w hSw; obtain ⟨-, hSw⟩ := hSw; go_split_ands; go_simp; with_reducible rfl)
                 · (simp only [Act.put, List.setIfInBounds_toArray, List.set_cons_zero, List.set_cons_succ]; with_reducible rfl))
              | (refine seq_callv (f := 51) (args := ?_) (v := ?_) (a' := ?_) (by rfl) (by rfl) (by rfl) Tryd.call51 ?_ ?_ ?_ ?_
                 rotate_left 3
                 · (go_simp; with_reducible rfl)
                 · ((with_reducible refine (empty_is x false _ he).mono ?_)
                    rintro e w' ⟨rfl, hk⟩
                    refine ⟨?_, HS.out _ (hKc.trans hk)⟩
                    with_reducible rfl)
                 · (simp only [Act.put, List.setIfInBounds_toArray, List.set_cons_zero, List.set_cons_succ]; with_reducible rfl)
                 clear hKc
                 intro w2 hw2
                 have hKc := hw2.1
                 clear hw2)
              | (refine seq_callv (f := 55) (args := ?_) (v := ?_) (a' := ?_) (by rfl) (by rfl) (by rfl) Tryd.call55 ?_ ?_ ?_ ?_
                 rotate_left 3
                 · (go_simp; with_reducible rfl)
                 · ((with_reducible refine (apart_is y x true _ hyok hxok ha).mono ?_)
                    rintro e w' ⟨rfl, hk⟩
                    refine ⟨?_, HS.out _ (hKc.trans hk)⟩
                    with_reducible rfl)
                 · (simp only [Act.put, List.setIfInBounds_toArray, List.set_cons_zero, List.set_cons_succ]; with_reducible rfl)
                 clear hKc
                 intro w2 hw2
                 have hKc := hw2.1
                 clear hw2)
              | (refine seq_skip (a' := ?_) (HS.out _ hKc) (by rfl) ?_ ?_
                 rotate_left
                 · (simp only [Act.put, List.setIfInBounds_toArray, List.set_cons_zero, List.set_cons_succ]; with_reducible rfl)))
            refine seq_nil ?_
            go_wp2_with fail
            go_roundw
            case rel =>
              refine ⟨q + 1 + 1, hlt, by go_num, (hk.alloc _).trans hKc, Lib.hid (fun k hkj => ?_)⟩
              rcases Nat.lt_or_ge k (q + 1) with hlk | hge
              · exact hno.out k hlk
              · obtain rfl : k = q + 1 := by omega
                rintro ⟨x', hx', hb'⟩
                rw [HX.out] at hx'
                cases hx'
                rcases hb' with hb' | ⟨y', hy0, hy', ha'⟩
                · rw [he] at hb'
                  cases hb'
                · (rw [show q + 1 - 1 = q from rfl, HY.out] at hy'; cases hy'; rw [ha] at ha'; cases ha')
            case measure => simp [intOf]; omega
        · go_wp2_with fail
          refine seq_region (S := fun w' => Keep (wr.alloc (.cells #[.int .u32 x.lo, .int .u32 x.hi] 37)) w' ∧ ((w'.cell? ⟨wr.heap.size, 0, none⟩ = some (.int .u32 x.lo) ∧ w'.cell? ⟨wr.heap.size, 1, none⟩ = some (.int .u32 x.hi)) ∧ (w'.cell? ⟨b, off + q * 2, none⟩ = some (.int .u32 y.lo) ∧ w'.cell? ⟨b, off + q * 2 + 1, none⟩ = some (.int .u32 y.hi)))) [⟨0, 16, 4096⟩, ⟨1, 4096, 8192⟩, ⟨2, 8192, 16384⟩, ⟨4, 16392, 32768⟩, ⟨12, 49152, 65536⟩, ⟨20, 81920, 131072⟩, ⟨32, 131073, 262144⟩, ⟨32, 131080, 524288⟩, ⟨160, 655360, 1048576⟩, ⟨352, 1441792, 2097152⟩, ⟨544, 2228224, 4194304⟩, ⟨32, 131088, 8388608⟩, ⟨3104, 12713984, 16777216⟩, ⟨4128, 16908288, 33554432⟩, ⟨8228, 33701888, 67108864⟩, ⟨16388, 67125248, 134217728⟩] [(0, false), (1, true), (2, false), (3, false), (4, false), (5, false), (6, false), (7, false), (8, false), (9, false), (10, false), (11, false), (12, true), (13, false), (14, false), (15, false)] rfl (by kernel_rfl) (by kernel_rfl) (fun _ _ d _ _ h => by cases d <;> exact h) (HS.out _ hKc) ?_
          simp only [rowsOf, rowAt, gslot, List.map_cons, List.map_nil, List.getElem?_toArray, List.getElem?_cons_zero, List.getElem?_cons_succ, Option.bind_some]
          repeat (first
            | (refine seq_take (v := ?_) (a' := ?_) (by rfl) ?_ ?_ ?_
               rotate_left 2
               · (intro w hSw; obtain ⟨-, hSw⟩ := hSw; go_split_ands; go_simp; with_reducible rfl)
               · (simp only [Act.put, List.setIfInBounds_toArray, List.set_cons_zero, List.set_cons_succ]; with_reducible rfl))
            | (refine seq_callv (f := 51) (args := ?_) (v := ?_) (a' := ?_) (by rfl) (by rfl) (by rfl) Tryd.call51 ?_ ?_ ?_ ?_
               rotate_left 3
               · (go_simp; with_reducible rfl)
               · ((with_reducible refine (empty_is x true _ he).mono ?_)
                  rintro e w' ⟨rfl, hk⟩
                  refine ⟨?_, HS.out _ (hKc.trans hk)⟩
                  with_reducible rfl)
               · (simp only [Act.put, List.setIfInBounds_toArray, List.set_cons_zero, List.set_cons_succ]; with_reducible rfl)
               clear hKc
               intro w2 hw2
               have hKc := hw2.1
               clear hw2)
            | (refine seq_callv (f := 55) (args := ?_) (v := ?_) (a' := ?_) (by rfl) (by rfl) (by rfl) Tryd.call55 ?_ ?_ ?_ ?_
               rotate_left 3
               · (go_simp; with_reducible rfl)
               · ((with_reducible refine (apart_any y x _ hyok hxok).mono ?_)
                  rintro e w' ⟨rfl, hk⟩
                  refine ⟨?_, HS.out _ (hKc.trans hk)⟩
                  with_reducible rfl)
               · (simp only [Act.put, List.setIfInBounds_toArray, List.set_cons_zero, List.set_cons_succ]; with_reducible rfl)
               clear hKc
               intro w2 hw2
               have hKc := hw2.1
               clear hw2)
            | (refine seq_skip (a' := ?_) (HS.out _ hKc) (by rfl) ?_ ?_
               rotate_left
               · (simp only [Act.put, List.setIfInBounds_toArray, List.set_cons_zero, List.set_cons_succ]; with_reducible rfl)))
          refine seq_nil ?_
          have hbad : badAt zs (q + 1) := ⟨x, HX.out, .inl he⟩
          have hvf : v = false := by
            cases hv : v
            · rfl
            · exact absurd (HV.out.1 hv) (not_rt_of_bad hbad)
          have HVF := Lib.hid hvf
          clear hvf
          go_wp2_with fail
          go_ret
          exact ⟨by rw [HVF.out]; rfl, (hk.alloc _).trans hKc⟩
    · obtain rfl : j = n := by omega
      have hr : Rt zs := rt_of_good fun k hk => by
        have hk' := hk
        obtain ⟨x, hx, _⟩ := hk
        exact hno.out k (by have := (List.getElem?_eq_some_iff.1 hx).1; rw [HN.out] at this; exact this) hk'
      have hvt : v = true := HV.out.2 hr
      have HVT := Lib.hid hvt
      clear hvt hr
      go_wp2_with fail
      go_ret
      exact ⟨by rw [HVT.out]; rfl, hk⟩
end Go.Proofs.YtmdhbbibghpijaaDoor
