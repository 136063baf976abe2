/- The document's own grow of layer 6. -/
import Derived.Test.YtmdhbbibghpijaaDoorIvlCut
import Derived.Test.YtmdhbbibghpijaaDoorIvlPut2
namespace Go.Proofs.YtmdhbbibghpijaaDoor
open Go.RowKit

/-- What grow answers: a set in a row of its own, with the keys from x to y - 1. -/
def GrowPost (w : World) (base n : Nat) (p : Int → Prop) (x y : Int) (e : Ending) (w' : World) : Prop :=
  ∃ A' n' c' r', e = .returned (.slice A' n' c') ∧ Own w' base A' n' c' r' ∧ IsSet r' (grw p x y) ∧ n' ≤ n + 1 ∧ Only (fun q => base ≤ q) w w'
theorem own_prs {w : World} {base n c : Nat} {A : Option Addr} {zs : List Sp} (h : Own w base A n c zs) : SpS w w.heap.size A n zs ∧ n ≤ c := by
  rcases h.2 with ⟨e, h0⟩ | ⟨g, cap, cur, e, _, _, hle, _⟩
  · cases e
    obtain ⟨A', c', e, hp⟩ := Prs.of_row h
    cases e
    exact ⟨hp, Nat.le_refl _⟩
  · cases e
    obtain ⟨A', c', e, hp⟩ := Prs.of_row h
    cases e
    exact ⟨hp, hle⟩
theorem one_sp (w : World) (lo hi : Int) : SpS (w.alloc (.cells #[.int .u32 lo, .int .u32 hi] 37)) (w.alloc (.cells #[.int .u32 lo, .int .u32 hi] 37)).heap.size (some ⟨w.heap.size, 0, none⟩) 1 [⟨lo, hi⟩] :=
  Prs.made (f := fun s : Sp => Value.int .u32 s.lo) (g := fun s : Sp => Value.int .u32 s.hi) w #[.int .u32 lo, .int .u32 hi] 37 [(⟨lo, hi⟩ : Sp)] rfl

set_option maxRecDepth 100000 in
set_option maxHeartbeats 4000000 in
theorem grow_end {w : World} {base n c : Nat} {A : Option Addr} {zs : List Sp} {p : Int → Prop} {x y : Int} (h : Own w base A n c zs) (hb : base ≤ w.heap.size) (hs : IsSet zs p) (hp : ∀ k, p k → k < x) (hxy : x < y) (hx : 0 ≤ x) (hy : y ≤ 4294967296) (hn : n ≤ 100000) (hl : ∀ q t, zs = q ++ [t] → t.hi + 1 ≠ x) :
    Calls Tryd.prog 57 #[.slice A n c, .int .i64 x, .int .i64 y] w (GrowPost w base n p x y) := by
  obtain ⟨i0, hi, hz0, hz1, hz2⟩ := info_parts infoSp
  have hset := grow_new hs hp hxy hx hy hl
  have hy1 : 0 ≤ y - 1 := by omega
  have hy2 : y - 1 ≤ 4294967295 := by omega
  have hx2 : x ≤ 4294967295 := by omega
  have HS := Lib.hid hset
  have HO := Lib.hid h
  have HB := Lib.hid hb
  have hle := h.1
  have hlen : zs.length = n := by rw [prc_length] at hle; omega
  have HLEN := Lib.hid hlen
  have hml : n + 1 ≤ maxLen := by unfold maxLen; omega
  have hby : (n + 1) * 8 ≤ 140737488355328 := by omega
  have HK1 := Lib.hid ((Only.refl (fun q => base ≤ q) w).alloc (.cells #[.int .u32 x, .int .u32 (y - 1)] 37))
  have HP := Lib.hid (one_sp w x (y - 1))
  have HOA := Lib.hid (h.alloc (.cells #[.int .u32 x, .int .u32 (y - 1)] 37))
  have hbs : base ≤ (w.alloc (.cells #[.int .u32 x, .int .u32 (y - 1)] 37)).heap.size := by simp; omega
  rcases snoc_cases zs with rfl | ⟨q, t, rfl⟩
  · obtain rfl : n = 0 := by simpa using hlen.symm
    clear hset h hb hs hp hl hle hlen
    go_enter Tryd.func57, Tryd.ntmps57
    go_wp2_with (at_builtin; go_must (refine wpList_append_prs rfl _ _ 32 rfl base 37 i0 (.agg #[.int .u32 0, .int .u32 0]) 8 Tryd.underlying32 hi hz0 hz1 hz2 rfl spOne _ 0 [] rfl HOA.out _ _ 1 1 [⟨x, y - 1⟩] rfl HP.out (fun h => by cases h) hml hby hbs ?_); intro A6 c6 w6 hown6 hgrow6 _; have HO6 := Lib.hid hown6; have HG6 := Lib.hid hgrow6; clear hown6 hgrow6)
    go_ret
    exact ⟨_, _, _, _, rfl, HO6.out, HS.out, by omega, HK1.out.grown HG6.out (fun k _ e => (HOA.out.lt k e).1)⟩
  · obtain rfl : n = q.length + 1 := by simpa using hlen.symm
    obtain ⟨g, rfl, hbg, hg, c1, c0, -, -⟩ := own_last h 0
    have hne : (t.hi + 1 == x) = false := by rw [beq_eq_false_iff_ne]; exact hl q t rfl
    obtain ⟨⟨o1, o2⟩, o3, o4⟩ := hs.ok t (by simp)
    have hcap := (own_prs h).2
    have hpos : (0 : Int) < ((q.length + 1 : Nat) : Int) := by omega
    generalize q.length = m at *
    clear hset h hb hs hp hl hle hlen c0 o1 o2
    go_enter Tryd.func57, Tryd.ntmps57
    go_wp2_with (at_builtin; go_must (refine wpList_append_prs rfl _ _ 32 rfl base 37 i0 (.agg #[.int .u32 0, .int .u32 0]) 8 Tryd.underlying32 hi hz0 hz1 hz2 rfl spOne _ (m + 1) (q ++ [t]) rfl HOA.out _ _ 1 1 [⟨x, y - 1⟩] rfl HP.out (fun h => by cases h) hml hby hbs ?_); intro A6 c6 w6 hown6 hgrow6 _; have HO6 := Lib.hid hown6; have HG6 := Lib.hid hgrow6; clear hown6 hgrow6)
    go_ret
    exact ⟨_, _, _, _, rfl, HO6.out, HS.out, by omega, HK1.out.grown HG6.out (fun k _ e => (HOA.out.lt k e).1)⟩

set_option maxRecDepth 100000 in
set_option maxHeartbeats 4000000 in
theorem grow_join {w : World} {base c : Nat} {A : Option Addr} {q : List Sp} {t : Sp} {p : Int → Prop} {x y : Int} (h : Own w base A (q.length + 1) c (q ++ [t])) (hb : base ≤ w.heap.size) (hs : IsSet (q ++ [t]) p) (hxy : x < y) (hx : 0 ≤ x) (hy : y ≤ 4294967296) (hn : q.length ≤ 100000) (hl : t.hi + 1 = x) :
    Calls Tryd.prog 57 #[.slice A (q.length + 1) c, .int .i64 x, .int .i64 y] w (GrowPost w base (q.length + 1) p x y) := by
  obtain ⟨i0, hi, hz0, hz1, hz2⟩ := info_parts infoSp
  have hset := grow_last hs hxy hy hl
  have hy1 : 0 ≤ y - 1 := by omega
  have hy2 : y - 1 ≤ 4294967295 := by omega
  have HS := Lib.hid hset
  obtain ⟨g, rfl, hbg, hg, c1, c0, -, -⟩ := own_last h 0
  have hne : (t.hi + 1 == x) = true := by rw [beq_iff_eq]; exact hl
  obtain ⟨⟨o1, o2⟩, o3, o4⟩ := hs.ok t (by simp)
  have hcap := (own_prs h).2
  have hsp := (own_prs h).1.part 0 q.length (by omega)
  simp only [Nat.zero_mul, Nat.add_zero, List.drop_zero, List.take_append_of_le_length (Nat.le_refl _), List.take_length] at hsp
  have hpos : (0 : Int) < ((q.length + 1 : Nat) : Int) := by omega
  have hset' := HS.out
  clear HS hset hl hs
  generalize q.length = m at *
  have HS := Lib.hid hset'
  have HQ := Lib.hid hsp
  have HB := Lib.hid hb
  have sa := SpAt.new w ⟨t.lo, y - 1⟩
  dsimp only at sa
  have hka : Keep w (w.alloc (.cells #[.int .u32 t.lo, .int .u32 (y - 1)] 37)) := (Keep.refl w).alloc _
  have hsa : (w.alloc (.cells #[.int .u32 t.lo, .int .u32 (y - 1)] 37)).heap.size = w.heap.size + 1 := by simp
  have HA := Lib.hid (And.intro sa (And.intro hka hsa))
  have HO0 := Lib.hid (World.ownsRow_made (base := w.heap.size + 1) (e := 37) (size := 2) (w.alloc (.cells #[.int .u32 t.lo, .int .u32 (y - 1)] 37)) #[] 0 (by simp) (by simp) rfl)
  rw [hsa] at HO0
  have HKB := Lib.hid (show Keep (w.alloc (.cells #[.int .u32 t.lo, .int .u32 (y - 1)] 37)) ((w.alloc (.cells #[.int .u32 t.lo, .int .u32 (y - 1)] 37)).alloc (.cells #[] 37)) from (Keep.refl _).alloc _)
  have hml : 0 + m ≤ maxLen := by unfold maxLen; omega
  have hby : (0 + m) * 8 ≤ 140737488355328 := by omega
  have hml2 : m + 1 ≤ maxLen := by unfold maxLen; omega
  have hby2 : (m + 1) * 8 ≤ 140737488355328 := by omega
  clear hset' h hb hsp sa hka hsa
  go_enter Tryd.func57, Tryd.ntmps57
  go_wp2_with (first
    | (at_builtin; refine wpList_append_prs rfl _ _ 32 rfl (w.heap.size + 1) 37 i0 (.agg #[.int .u32 0, .int .u32 0]) 8 Tryd.underlying32 hi hz0 hz1 hz2 rfl spOne _ m q rfl (HO1.out.alloc _) _ (some ⟨w1.heap.size, 0, none⟩) 1 1 [⟨t.lo, y - 1⟩] rfl (one_sp w1 t.lo (y - 1)) (fun h => by cases h) hml2 hby2 (by have := HK1.out.size; simp at this ⊢; omega) ?_; intro A2 c2 w2 hown2 hgrow2 _; have HO2 := Lib.hid hown2; have HK2 := Lib.hid (Only.keep (HK1.out.alloc _) ((Only.refl (fun k => w.heap.size + 1 ≤ k) _).grown hgrow2 (fun k _ e => (HO1.out.lt k e).1)) (fun k hk => by omega)); clear hown2 hgrow2)
    | (at_builtin; go_must (refine wpList_append_prs rfl _ _ 32 rfl (w.heap.size + 1) 37 i0 (.agg #[.int .u32 0, .int .u32 0]) 8 Tryd.underlying32 hi hz0 hz1 hz2 rfl spOne _ 0 [] rfl HO0.out _ _ m c q rfl (HQ.out.below (HA.out.2.1.trans HKB.out)) (fun h => by cases h) hml hby (by simp) ?_); intro A1 c1' w1 hown1 hgrow1 _; have ho1 := (Only.refl (fun k => w.heap.size + 1 ≤ k) _).grown hgrow1 (fun k _ e => (HO0.out.lt k e).1); have hk1 := Only.keep (HA.out.2.1.trans HKB.out) ho1 (fun k hk => by omega); have ha1 := (ho1.block w.heap.size (by simp; omega) (by omega)).trans (SpAt.keep HA.out.1 HKB.out); obtain ⟨e0, e1⟩ := SpAt.cells (show SpAt w1 w.heap.size ⟨t.lo, y - 1⟩ from ha1); dsimp only at e0 e1; have HK1 := Lib.hid hk1; rw [Nat.zero_add, List.nil_append] at hown1; rw [Nat.zero_add]; have HO1 := Lib.hid hown1; clear hown1 hgrow1 ho1 hk1 ha1))
  go_ret
  exact ⟨_, _, _, _, rfl, ownsRow_le HO2.out (by have := HB.out; omega), HS.out, by omega, Only.of_keep _ HK2.out⟩
end Go.Proofs.YtmdhbbibghpijaaDoor
