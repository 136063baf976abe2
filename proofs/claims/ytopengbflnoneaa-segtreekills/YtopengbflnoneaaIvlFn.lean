/- ivl's small functions: empty, apart, Right; slices.Equal, IndexFunc; Has. -/
import Derived.Test.YtopengbflnoneaaProg
import Derived.Test.YtopengbflnoneaaIvlMath
import Derived.Test.YtopengbflnoneaaSeq
import Derived.OwnWalk
namespace Go.Proofs.Ytopengbflnoneaa.Iv
open Go.RowKit

/-- A span that lies in block b. -/
def SpAt (w : World) (b : Nat) (s : Sp) : Prop := w.heap[b]? = some (.cells #[.int .u32 s.lo, .int .u32 s.hi] 36 (0, 0))
theorem SpAt.keep {w w' : World} {b : Nat} {s : Sp} (h : SpAt w b s) (hk : Keep w w') : SpAt w' b s := (hk.block b (Array.getElem?_eq_some_iff.1 h).1).trans h
theorem SpAt.new (w : World) (s : Sp) : SpAt (w.alloc (.cells #[.int .u32 s.lo, .int .u32 s.hi] 36)) w.heap.size s := World.alloc_heap_new _ _
theorem SpAt.cells {w : World} {b : Nat} {s : Sp} (h : SpAt w b s) : w.cell? ⟨b, 0, none⟩ = some (.int .u32 s.lo) ∧ w.cell? ⟨b, 1, none⟩ = some (.int .u32 s.hi) := by
  unfold SpAt at h
  simp [World.cell?, h]
theorem SpAt.two (w : World) (a b : Sp) : SpAt ((w.alloc (.cells #[.int .u32 a.lo, .int .u32 a.hi] 36)).alloc (.cells #[.int .u32 b.lo, .int .u32 b.hi] 36)) w.heap.size a ∧
    SpAt ((w.alloc (.cells #[.int .u32 a.lo, .int .u32 a.hi] 36)).alloc (.cells #[.int .u32 b.lo, .int .u32 b.hi] 36)) (w.heap.size + 1) b := by
  refine ⟨(SpAt.new w a).keep ((Keep.refl _).alloc _), ?_⟩
  have := SpAt.new (w.alloc (.cells #[.int .u32 a.lo, .int .u32 a.hi] 36)) b
  rw [World.size_alloc] at this
  exact this
/-- A slice of spans. -/
abbrev SpS (w : World) (B : Nat) (A : Option Addr) (n : Nat) (zs : List Sp) : Prop := Prs (fun s : Sp => Value.int .u32 s.lo) (fun s : Sp => Value.int .u32 s.hi) w B A n zs
theorem SpS.cells {w : World} {B : Nat} {A : Option Addr} {n : Nat} {zs : List Sp} (h : SpS w B A n zs) (j : Nat) (z : Sp) (hj : zs[j]? = some z) :
    ∃ b off, A = some ⟨b, off, none⟩ ∧ b < B ∧ w.cell? ⟨b, off + j * 2, none⟩ = some (.int .u32 z.lo) ∧ w.cell? ⟨b, off + j * 2 + 1, none⟩ = some (.int .u32 z.hi) := h.get j z hj
theorem spOne : ∀ z : Sp, (Value.int .u32 z.lo).oneCell' = true ∧ (Value.int .u32 z.hi).oneCell' = true := fun _ => ⟨rfl, rfl⟩
theorem infoSp : (Try.prog.info? 36).map (fun i => (i.zero, i.size, i.bytes)) = some (some (.agg #[.int .u32 0, .int .u32 0]), 2, 8) := by kernel_rfl

def emp (s : Sp) : Bool := decide (s.hi < s.lo)
theorem empty_any (s : Sp) (w : World) : Calls Try.prog 41 #[.agg #[.int .u32 s.lo, .int .u32 s.hi]] w fun e w' => e = .returned (.bool (emp s)) ∧ Keep w w' := by
  go_enter Try.func41, Try.ntmps41
  go_wp2
  go_ret
  exact ⟨rfl, (Keep.refl w).alloc _⟩
/-- Is some key behind a and ahead of b? -/
def apt (a b : Sp) : Bool := decide (a.hi + 1 < b.lo)
theorem apart_any (a b : Sp) (w : World) (ha : a.ok) (hb : b.ok) : Calls Try.prog 45 #[.agg #[.int .u32 a.lo, .int .u32 a.hi], .agg #[.int .u32 b.lo, .int .u32 b.hi]] w fun e w' => e = .returned (.bool (apt a b)) ∧ Keep w w' := by
  obtain ⟨⟨a1, a2⟩, a3, a4⟩ := ha
  obtain ⟨⟨b1, b2⟩, b3, b4⟩ := hb
  by_cases h : a.hi < b.lo
  · have hw : IntKind.u32.wrap (b.lo - a.hi) = b.lo - a.hi := by rw [IntKind.wrap_u32]; omega
    have e : apt a b = decide (1 < b.lo - a.hi) := by unfold apt; rw [Bool.eq_iff_iff]; simp; omega
    have HE := Lib.hid e
    clear e
    go_enter Try.func45, Try.ntmps45
    go_wp2
    go_ret
    exact ⟨by rw [HE.out]; rfl, ((Keep.refl w).alloc _).alloc _⟩
  · have hd : decide (a.hi < b.lo) = false := decide_eq_false h
    have e : apt a b = false := by unfold apt; simp; omega
    have HE := Lib.hid e
    clear e
    go_enter Try.func45, Try.ntmps45
    go_wp2
    go_ret
    exact ⟨by rw [HE.out]; rfl, ((Keep.refl w).alloc _).alloc _⟩

theorem empty_is (s : Sp) (v : Bool) (w : World) (h : emp s = v) : Calls Try.prog 41 #[.agg #[.int .u32 s.lo, .int .u32 s.hi]] w fun e w' => e = .returned (.bool v) ∧ Keep w w' := h ▸ empty_any s w
theorem apart_is (a b : Sp) (v : Bool) (w : World) (ha : a.ok) (hb : b.ok) (h : apt a b = v) : Calls Try.prog 45 #[.agg #[.int .u32 a.lo, .int .u32 a.hi], .agg #[.int .u32 b.lo, .int .u32 b.hi]] w fun e w' => e = .returned (.bool v) ∧ Keep w w' := h ▸ apart_any a b w ha hb
/-- Are spans a set? (span by span) -/
def rtB : List Sp → Bool
  | [] => true
  | [s] => !emp s
  | s :: t :: zs => !emp s && (apt s t && rtB (t :: zs))
theorem rtB_iff : ∀ {zs : List Sp}, rtB zs = true ↔ Rt zs
  | [] => ⟨fun _ => Rt.nil, fun _ => rfl⟩
  | [s] => by
    unfold rtB emp Rt
    simp
  | s :: t :: zs => by
    rw [rtB, Bool.and_eq_true, Bool.and_eq_true, rtB_iff]
    unfold emp apt
    simp only [Bool.not_eq_true', decide_eq_false_iff_not, decide_eq_true_eq]
    constructor
    · rintro ⟨h1, h2, h3⟩
      refine ⟨fun x hx => ?_, List.pairwise_cons.2 ⟨fun x hx => ?_, h3.2⟩⟩
      · rcases List.mem_cons.1 hx with rfl | hx
        · omega
        · exact h3.1 x hx
      · rcases List.mem_cons.1 hx with rfl | hx
        · exact h2
        · have := (List.pairwise_cons.1 h3.2).1 x hx
          have := h3.1 t (by simp)
          omega
    · intro h
      exact ⟨by have := h.1 s (by simp); omega, (List.pairwise_cons.1 h.2).1 t (by simp), h.tail⟩
/-- At the j-th: it is empty, or not apart from the one ahead. -/
def badAt (zs : List Sp) (j : Nat) : Prop := ∃ x, zs[j]? = some x ∧ (emp x = true ∨ ∃ y, 0 < j ∧ zs[j - 1]? = some y ∧ apt y x = false)
theorem rt_of_good {zs : List Sp} (h : ∀ j, ¬ badAt zs j) : Rt zs := by
  rw [← rtB_iff]
  induction zs with
  | nil => rfl
  | cons s zs ih =>
    have h0 : emp s = false := by
      cases he : emp s
      · rfl
      · exact absurd ⟨s, rfl, .inl he⟩ (h 0)
    have htail : ∀ j, ¬ badAt zs j := by
      rintro j ⟨x, hx, h1⟩
      refine h (j + 1) ⟨x, by simpa using hx, ?_⟩
      rcases h1 with h1 | ⟨y, hj, hy, h1⟩
      · exact .inl h1
      · refine .inr ⟨y, by omega, ?_, h1⟩
        rw [show j + 1 - 1 = (j - 1) + 1 from by omega]
        simpa using hy
    cases zs with
    | nil => simp [rtB, h0]
    | cons t zs =>
      have h1 : apt s t = true := by
        cases he : apt s t
        · exact absurd ⟨t, rfl, .inr ⟨s, by omega, rfl, he⟩⟩ (h 1)
        · rfl
      rw [rtB, h0, h1, ih htail]
      rfl
theorem not_rt_of_bad {zs : List Sp} {j : Nat} (h : badAt zs j) : ¬ Rt zs := by
  rintro ⟨h1, h2⟩
  obtain ⟨x, hx, he | ⟨y, hj, hy, ha⟩⟩ := h
  · have := h1 x (List.mem_of_getElem? hx)
    unfold emp at he
    simp at he
    omega
  · have hjl := (List.getElem?_eq_some_iff.1 hx).1
    have := List.pairwise_iff_getElem.1 h2 (j - 1) j (by omega) hjl (by omega)
    rw [(List.getElem?_eq_some_iff.1 hx).2, (List.getElem?_eq_some_iff.1 hy).2] at this
    unfold apt at ha
    simp at ha
    omega

end Go.Proofs.Ytopengbflnoneaa.Iv
