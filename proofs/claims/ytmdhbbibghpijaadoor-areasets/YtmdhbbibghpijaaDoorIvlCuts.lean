/- The document's own Has and Same of layer 6. The document's own put of layer 6: a rising row with a number, once. Cuts, and sets that are grown from one cut up to the next one: mathematics alone. The document's own put of layer 6: the walk. The document's own grow of layer 6. The document's own Cuts of layer 6. -/
import Derived.Test.YtmdhbbibghpijaaDoorIvlArg
namespace Go.Proofs.YtmdhbbibghpijaaDoor
open Go.RowKit

theorem hasB_take {zs : List Sp} {j : Nat} {x : Sp} {k : Int} (h : zs[j]? = some x) : hasB (zs.take (j + 1)) k = (hasB (zs.take j) k || (decide (x.lo ≤ k) && decide (k ≤ x.hi))) := by
  rw [(take_snoc h).1]
  simp [hasB]
theorem hasB_sub {zs : List Sp} {j : Nat} {x : Sp} {k : Int} (h : zs[j]? = some x) (h1 : x.lo ≤ k) (h2 : k ≤ x.hi) : hasB zs k = true := hasB_iff.2 ⟨x, List.mem_of_getElem? h, h1, h2⟩

set_option maxRecDepth 100000 in
set_option maxHeartbeats 2000000 in
theorem rhas_any (A : Option Addr) (n c : Nat) (zs : List Sp) (k : Int) (w : World) (h : Arg w A n c zs) (hn : n ≤ 40000) :
    Calls Tryd.prog 43 #[.slice A n c, .int .i64 k] w fun e w' => e = .returned (.bool (hasB zs k)) ∧ w = w' := by
  have HL := Lib.hid h.len
  have HA := Lib.hid h
  have hni : (n : Int) ≤ 40000 := by omega
  clear h
  go_enter Tryd.func43, Tryd.ntmps43
  go_wp2_with fail
  go_loopw [5] (fun i wr => w = wr ∧ ∃ (j : Nat), j ≤ n ∧ i = .int .i64 j ∧ hasB (zs.take j) k = false) (fun i _ => n - (intOf i).toNat)
  case atStart => exact ⟨rfl, 0, Nat.zero_le _, rfl, rfl⟩
  case round =>
    obtain ⟨rfl, j, hj, rfl, hno⟩ := hrel
    have HNO := Lib.hid hno
    clear hno
    by_cases hlt : j < n
    · obtain ⟨x, hx⟩ : ∃ x, zs[j]? = some x := ⟨_, List.getElem?_eq_getElem (by rw [HL.out]; exact hlt)⟩
      obtain ⟨b, off, e, hb, c0, c1⟩ := SpS.cells HA.out.prs j x hx
      subst e
      obtain ⟨⟨o1, o2⟩, o3, o4⟩ := HA.out.ok x (List.mem_of_getElem? hx)
      have hji : (j : Int) < (n : Int) := by omega
      by_cases h1 : x.lo ≤ k
      · by_cases h2 : k ≤ x.hi
        · have HT := Lib.hid (hasB_sub hx h1 h2)
          clear hx
          go_wp2_with fail
          go_ret
          exact ⟨by rw [HT.out]; rfl, rfl⟩
        · have HT := Lib.hid (show hasB (zs.take (j + 1)) k = false by rw [hasB_take hx, HNO.out]; simp; omega)
          clear hx
          go_wp2_with fail
          go_roundw
          case rel => exact ⟨by first | rfl | trivial, j + 1, hlt, by go_num, HT.out⟩
          case measure => simp [intOf]; omega
      · have HT := Lib.hid (show hasB (zs.take (j + 1)) k = false by rw [hasB_take hx, HNO.out]; simp; omega)
        clear hx
        go_wp2_with fail
        go_roundw
        case rel => exact ⟨by first | rfl | trivial, j + 1, hlt, by go_num, HT.out⟩
        case measure => simp [intOf]; omega
    · obtain rfl : j = n := by omega
      have HT := Lib.hid (show hasB zs k = false by have := HNO.out; rwa [List.take_of_length_le (by rw [HL.out]; exact Nat.le_refl _)] at this)
      go_wp2_with fail
      go_ret
      exact ⟨by rw [HT.out]; rfl, rfl⟩

def eqSp (x y : Sp) : Bool := decide (x.lo = y.lo) && decide (x.hi = y.hi)
theorem eqSp_iff {x y : Sp} : eqSp x y = true ↔ x = y := by
  cases x; cases y
  simp [eqSp]
theorem equalIn_s4 (p q r s : Int) (w : World) : (Op.equalIn 10000 37 (.agg #[.int .u32 p, .int .u32 q]) (.agg #[.int .u32 r, .int .u32 s])).run Tryd.prog w = .ok (eqSp ⟨p, q⟩ ⟨r, s⟩) w := by
  have h := run_equalIn_struct (P := Tryd.prog) w 9999 37 #[.int .u32 p, .int .u32 q] #[.int .u32 r, .int .u32 s] (by kernel_rfl) (by kernel_rfl)
  rw [h]
  obtain ⟨f0, f1, e, o0, o1, t0, t1, n0, n1⟩ := spFields
  have e2 : (Tryd.prog.fieldsOf 37).toList = [f0, f1] := by simp [Program.fieldsOf, e]
  rw [e2]
  simp [Op.eqFields, o0, o1, t0, t1, bne_iff_ne.1 n0, bne_iff_ne.1 n1, go_sem, eqSp]
  by_cases h1 : p = r <;> by_cases h2 : q = s <;> simp [h1, h2]

set_option maxRecDepth 100000 in
set_option maxHeartbeats 4000000 in
/-- The same spans? -/
theorem rsame_any (A : Option Addr) (n c : Nat) (us : List Sp) (B : Option Addr) (n2 c2 : Nat) (vs : List Sp) (v : Bool) (w : World) (h : Arg w A n c us) (h2 : Arg w B n2 c2 vs) (hn : n ≤ 40000) (hn2 : n2 ≤ 40000) (hv : v = true ↔ us = vs) :
    Calls Tryd.prog 31 #[.slice A n c, .slice B n2 c2] w fun e w' => e = .returned (.bool v) ∧ Keep w w' := by
  have HL := Lib.hid (And.intro h.len h2.len)
  have HA := Lib.hid h
  have HB := Lib.hid h2
  have HV := Lib.hid hv
  have hni : (n : Int) ≤ 40000 := by omega
  clear h h2 hv
  by_cases hnn : n = n2
  · subst hnn
    go_enter Tryd.func31, Tryd.ntmps31
    go_wp2_with fail
    go_loopw [5] (fun i wr => Keep w wr ∧ ∃ (j : Nat), j ≤ n ∧ i = .int .i64 j ∧ us.take j = vs.take j) (fun i _ => n - (intOf i).toNat)
    case atStart => exact ⟨Keep.refl _, 0, Nat.zero_le _, rfl, rfl⟩
    case round =>
      obtain ⟨hk, j, hj, rfl, hno⟩ := hrel
      have HNO := Lib.hid hno
      clear hno
      by_cases hlt : j < n
      · obtain ⟨x, hx⟩ : ∃ x, us[j]? = some x := ⟨_, List.getElem?_eq_getElem (by rw [HL.out.1]; exact hlt)⟩
        obtain ⟨y, hy⟩ : ∃ y, vs[j]? = some y := ⟨_, List.getElem?_eq_getElem (by rw [HL.out.2]; exact hlt)⟩
        obtain ⟨b1, o1, e, hb1, x0, x1⟩ := SpS.cells (HA.out.keep hk).prs j x hx
        subst e
        obtain ⟨b2, o2, e, hb2, y0, y1⟩ := SpS.cells (HB.out.keep hk).prs j y hy
        subst e
        have HXY := Lib.hid (And.intro hx hy)
        have hji : (j : Int) < (n : Int) := by omega
        have hq := equalIn_s4 x.lo x.hi y.lo y.hi
        have heq : eqSp ⟨x.lo, x.hi⟩ ⟨y.lo, y.hi⟩ = eqSp x y := rfl
        rw [heq] at hq
        clear hx hy heq
        have HS := Lib.hid (show ∀ w', Keep wr w' → Keep wr w' ∧ (w'.cell? ⟨b1, o1 + j * 2, none⟩ = some (.int .u32 x.lo) ∧ w'.cell? ⟨b1, o1 + j * 2 + 1, none⟩ = some (.int .u32 x.hi) ∧ w'.cell? ⟨b2, o2 + j * 2, none⟩ = some (.int .u32 y.lo) ∧ w'.cell? ⟨b2, o2 + j * 2 + 1, none⟩ = some (.int .u32 y.hi)) from
          fun w' h => ⟨h, (h.cell (p := ⟨b1, o1 + j * 2, none⟩) hb1).trans x0, (h.cell (p := ⟨b1, o1 + j * 2 + 1, none⟩) hb1).trans x1, (h.cell (p := ⟨b2, o2 + j * 2, none⟩) hb2).trans y0, (h.cell (p := ⟨b2, o2 + j * 2 + 1, none⟩) hb2).trans y1⟩)
        have hKc := (Keep.refl wr).drew
        cases hxy : eqSp x y
        all_goals
          rw [hxy] at hq
          go_wp2_with fail
          refine seq_region (S := fun w' => Keep wr w' ∧ (w'.cell? ⟨b1, o1 + j * 2, none⟩ = some (.int .u32 x.lo) ∧ w'.cell? ⟨b1, o1 + j * 2 + 1, none⟩ = some (.int .u32 x.hi) ∧ w'.cell? ⟨b2, o2 + j * 2, none⟩ = some (.int .u32 y.lo) ∧ w'.cell? ⟨b2, o2 + j * 2 + 1, none⟩ = some (.int .u32 y.hi))) [⟨0, 1, 131072⟩, ⟨0, 32, 262144⟩, ⟨3, 393216, 524288⟩, ⟨4, 524288, 1048576⟩, ⟨0, 2, 2097152⟩, ⟨0, 32, 4194304⟩, ⟨48, 6291456, 8388608⟩, ⟨64, 8388608, 16777216⟩, ⟨136, 17825792, 33554432⟩] [(0, false), (1, false), (2, false), (3, false), (4, false), (5, false), (6, false), (7, false), (8, false)] rfl (by kernel_rfl) (by kernel_rfl) (fun _ _ d _ _ h => by cases d <;> exact h) (HS.out _ hKc) ?_
          simp only [rowsOf, rowAt, gslot, List.map_cons, List.map_nil, List.getElem?_toArray, List.getElem?_cons_zero, List.getElem?_cons_succ]
          repeat (first
            | (refine seq_take (v := ?_) (a' := ?_) (by rfl) ?_ ?_ ?_
               rotate_left 2
               · (intro w hSw; obtain ⟨-, hSw⟩ := hSw; go_split_ands; go_simp; with_reducible rfl)
               · (simp only [Act.put, List.setIfInBounds_toArray, List.set_cons_zero, List.set_cons_succ]; with_reducible rfl)))
          refine seq_nil ?_
        · have hvf : v = false := by
            cases v
            · rfl
            · have he := HV.out.1 rfl
              have h1 := HXY.out.1
              rw [he, HXY.out.2] at h1
              have := eqSp_iff.2 (Option.some.inj h1).symm
              rw [hxy] at this
              cases this
          subst hvf
          go_wp2_with fail
          go_ret
          exact ⟨rfl, hk.trans hKc⟩
        · have HT := Lib.hid (show us.take (j + 1) = vs.take (j + 1) by
            rw [(take_snoc HXY.out.1).1, (take_snoc HXY.out.2).1, HNO.out, eqSp_iff.1 hxy])
          go_wp2_with fail
          go_roundw
          case rel => exact ⟨hk.trans hKc, j + 1, hlt, by go_num, HT.out⟩
          case measure => simp [intOf]; omega
      · obtain rfl : j = n := by omega
        have hvt : v = true := HV.out.2 (by
          have := HNO.out
          rwa [List.take_of_length_le (by rw [HL.out.1]; exact Nat.le_refl _), List.take_of_length_le (by rw [HL.out.2]; exact Nat.le_refl _)] at this)
        subst hvt
        go_wp2_with fail
        go_ret
        exact ⟨rfl, hk⟩
  · have hvf : v = false := by
      cases v
      · rfl
      · have he := HV.out.1 rfl
        exact absurd (by rw [← HL.out.1, he, HL.out.2]) hnn
    subst hvf
    have hne : ((n : Int) != (n2 : Int)) = true := by rw [bne_iff_ne]; omega
    go_enter Tryd.func31, Tryd.ntmps31
    go_wp2
    go_ret
    exact ⟨rfl, Keep.refl _⟩
end Go.Proofs.YtmdhbbibghpijaaDoor
namespace Go.Proofs.YtmdhbbibghpijaaDoor
open Go.RowKit

theorem infoI64 : (Tryd.prog.info? 2).map (fun i => (i.zero, i.size, i.bytes)) = some (some (.int .i64 0), 1, 8) := by kernel_rfl
/-- Rising. -/
def Up (ns : List Int) : Prop := ns.Pairwise (fun a b => a < b)
/-- What put makes: the numbers ahead of k, k, those behind it. -/
structure Put (ns : List Int) (k : Int) (ms : List Int) : Prop where
  up : Up ms
  mem : ∀ z, z ∈ ms ↔ z ∈ ns ∨ z = k
  len : ms.length ≤ ns.length + 1
theorem put_same {ns : List Int} {k : Int} (h : Up ns) (hk : k ∈ ns) : Put ns k ns := ⟨h, fun z => ⟨.inl, fun g => g.elim id (fun e => e ▸ hk)⟩, by omega⟩
theorem put_new {xs ys : List Int} {k : Int} (h : Up (xs ++ ys)) (h1 : ∀ z ∈ xs, z < k) (h2 : ∀ z ∈ ys, k < z) : Put (xs ++ ys) k (xs ++ [k] ++ ys) := by
  unfold Up at h
  rw [List.pairwise_append] at h
  refine ⟨?_, fun z => ?_, by simp; omega⟩
  rotate_left
  · simp only [List.mem_append, List.mem_singleton]
    constructor
    · rintro ((g | g) | g)
      · exact .inl (.inl g)
      · exact .inr g
      · exact .inl (.inr g)
    · rintro ((g | g) | g)
      · exact .inl (.inl g)
      · exact .inr g
      · exact .inl (.inr g)
  unfold Up
  rw [List.append_assoc, List.pairwise_append, List.singleton_append, List.pairwise_cons]
  refine ⟨h.1, ⟨h2, h.2.1⟩, fun a ha b hb => ?_⟩
  rcases List.mem_cons.1 hb with rfl | hb
  · exact h1 a ha
  · exact h.2.2 a ha b hb
theorem behind {ns : List Int} {j : Nat} {k x : Int} (h : Up ns) (hx : ns[j]? = some x) (hk : k < x) : ∀ z ∈ ns.drop j, k < z := by
  have hj := (List.getElem?_eq_some_iff.1 hx).1
  have e : ns.drop j = x :: ns.drop (j + 1) := by
    rw [List.drop_eq_getElem_cons hj]
    congr 1
    exact (List.getElem?_eq_some_iff.1 hx).2
  have hp : (ns.drop j).Pairwise (fun a b => a < b) := List.Pairwise.sublist (List.drop_sublist j ns) h
  rw [e] at hp ⊢
  intro z hz
  rcases List.mem_cons.1 hz with rfl | hz
  · exact hk
  · have := (List.pairwise_cons.1 hp).1 z hz
    omega

/-- A row of numbers that is only read. -/
structure Nums (w : World) (A : Option Addr) (n c : Nat) (ns : List Int) : Prop where
  lies : Lies w w.heap.size A n (vals .i64 ns)
  cap : n ≤ c
  nil : A = none → c = 0
theorem Nums.keep {w w' : World} {A : Option Addr} {n c : Nat} {ns : List Int} (h : Nums w A n c ns) (hk : Keep w w') : Nums w' A n c ns := ⟨(h.lies.below hk).more hk.size, h.cap, h.nil⟩
theorem Nums.len {w : World} {A : Option Addr} {n c : Nat} {ns : List Int} (h : Nums w A n c ns) : ns.length = n := by have := h.lies.1; rwa [vals_length] at this
theorem nums_row {w : World} {base n c : Nat} {A : Option Addr} {ns : List Int} (h : w.ownsRow base 2 1 (.slice A n c) n (vals .i64 ns)) : Nums w A n c ns := by
  obtain ⟨A', c', e, hl⟩ := Lies.of_row h
  cases e
  rcases h.2 with ⟨e, _⟩ | ⟨g, cap, cur, e, _, _, hle, _⟩
  · cases e; exact ⟨hl, Nat.le_refl _, fun _ => rfl⟩
  · cases e; exact ⟨hl, hle, (fun h => by cases h)⟩
theorem vals_gi {ns : List Int} {j : Nat} {v : Int} (h : ns[j]? = some v) : (vals .i64 ns).getD j undef = .int .i64 v := by
  simp [vals, List.getD_eq_getElem?_getD, h]

end Go.Proofs.YtmdhbbibghpijaaDoor
namespace Go.Proofs.YtmdhbbibghpijaaDoor
open Go.RowKit

/-- Each span's begin, and where it has ended, are among the numbers. -/
def CutOf (zs : List Sp) (ns : List Int) : Prop := ∀ s ∈ zs, s.lo ≤ s.hi → s.lo ∈ ns ∧ s.hi + 1 ∈ ns
theorem CutOf.mono {zs : List Sp} {ns ms : List Int} (h : CutOf zs ns) (hs : ∀ z ∈ ns, z ∈ ms) : CutOf zs ms := fun s hz he => ⟨hs _ (h s hz he).1, hs _ (h s hz he).2⟩
theorem hasB_flat {zs : List Sp} {ns : List Int} (h : CutOf zs ns) {x y k : Int} (hno : ∀ z ∈ ns, ¬ (x < z ∧ z < y)) (hx : x ≤ k) (hy : k < y) : hasB zs k = hasB zs x := by
  have e : mem zs k ↔ mem zs x := by
    constructor
    · rintro ⟨s, hs, h1, h2⟩
      have h3 := hno _ (h s hs (by omega)).1
      exact ⟨s, hs, by omega, by omega⟩
    · rintro ⟨s, hs, h1, h2⟩
      have h3 := hno _ (h s hs (by omega)).2
      exact ⟨s, hs, by omega, by omega⟩
  have e1 := hasB_iff (zs := zs) (k := k)
  have e2 := hasB_iff (zs := zs) (k := x)
  cases h1 : hasB zs k <;> cases h2 : hasB zs x <;> simp_all
theorem up_lt {ns : List Int} (h : Up ns) {i j : Nat} {x y : Int} (hx : ns[i]? = some x) (hy : ns[j]? = some y) (hij : i < j) : x < y := by
  obtain ⟨hi, rfl⟩ := List.getElem?_eq_some_iff.1 hx
  obtain ⟨hj, rfl⟩ := List.getElem?_eq_some_iff.1 hy
  exact List.pairwise_iff_getElem.1 h i j hi hj hij
theorem up_between {ns : List Int} (h : Up ns) {i : Nat} {x y : Int} (hx : ns[i]? = some x) (hy : ns[i + 1]? = some y) : ∀ z ∈ ns, ¬ (x < z ∧ z < y) := by
  rintro z hz ⟨h1, h2⟩
  obtain ⟨j, hj⟩ := List.getElem?_of_mem hz
  rcases Nat.lt_trichotomy j i with hlt | heq | hgt
  · have := up_lt h hj hx hlt; omega
  · subst heq; rw [hx] at hj; cases hj; omega
  · rcases (show j = i + 1 ∨ i + 1 < j by omega) with e | hgt2
    · subst e; rw [hy] at hj; cases hj; omega
    · have := up_lt h hy hj hgt2; omega
/-- With the keys from x to y - 1. -/
def grw (p : Int → Prop) (x y : Int) : Int → Prop := fun k => p k ∨ (x ≤ k ∧ k < y)
theorem grow_new {r : List Sp} {p : Int → Prop} {x y : Int} (h : IsSet r p) (hp : ∀ k, p k → k < x) (hxy : x < y) (hx : 0 ≤ x) (hy : y ≤ 4294967296) (hl : ∀ q t, r = q ++ [t] → t.hi + 1 ≠ x) : IsSet (r ++ [⟨x, y - 1⟩]) (grw p x y) := by
  have hb : ∀ s ∈ r, s.hi + 1 < x := by
    intro s hs
    rcases snoc_cases r with rfl | ⟨q, t, rfl⟩
    · cases hs
    · have h1 := rt_last h.rt s hs
      have h2 := h.rt.1 t (by simp)
      have h3 := hp t.hi ((h.mem t.hi).1 ⟨t, by simp, h2, Int.le_refl _⟩)
      have h4 := hl q t rfl
      omega
  refine ⟨rt_snoc h.rt (by dsimp only; omega) hb, fun k => ?_, fun s hs => ?_⟩
  · rw [mem_append, h.mem k, mem_cons]
    unfold grw inS
    constructor
    · rintro (g | g | g)
      · exact .inl g
      · exact .inr ⟨g.1, by have := g.2; dsimp only at this; omega⟩
      · exact absurd g (mem_nil k)
    · rintro (g | g)
      · exact .inl g
      · exact .inr (.inl ⟨g.1, by dsimp only; omega⟩)
  · rcases List.mem_append.1 hs with g | g
    · exact h.ok s g
    · simp at g
      subst g
      exact ⟨⟨by dsimp only; omega, by dsimp only; omega⟩, by dsimp only; omega, by dsimp only; omega⟩
theorem grow_last {q : List Sp} {t : Sp} {p : Int → Prop} {x y : Int} (h : IsSet (q ++ [t]) p) (hxy : x < y) (hy : y ≤ 4294967296) (hl : t.hi + 1 = x) : IsSet (q ++ [⟨t.lo, y - 1⟩]) (grw p x y) := by
  have ht := h.rt.1 t (by simp)
  have hpw := List.pairwise_append.1 h.rt.2
  refine ⟨rt_snoc ⟨fun s hs => h.rt.1 s (by simp [hs]), hpw.1⟩ (by dsimp only; omega) (fun s hs => hpw.2.2 s hs t (by simp)), fun k => ?_, fun s hs => ?_⟩
  · have hm := h.mem k
    rw [mem_append, mem_cons] at hm
    rw [mem_append, mem_cons]
    unfold grw inS
    unfold inS at hm
    rw [← hm]
    constructor
    · rintro (g | g | g)
      · exact .inl (.inl g)
      · by_cases hk : k ≤ t.hi
        · exact .inl (.inr (.inl ⟨g.1, hk⟩))
        · exact .inr ⟨by omega, by have := g.2; dsimp only at this; omega⟩
      · exact absurd g (mem_nil k)
    · rintro ((g | g | g) | g)
      · exact .inl g
      · exact .inr (.inl ⟨g.1, by dsimp only; omega⟩)
      · exact absurd g (mem_nil k)
      · exact .inr (.inl ⟨by dsimp only; omega, by dsimp only; omega⟩)
  · rcases List.mem_append.1 hs with g | g
    · exact h.ok s (by simp [g])
    · simp at g
      subst g
      obtain ⟨⟨o1, o2⟩, o3, o4⟩ := h.ok t (by simp)
      exact ⟨⟨o1, o2⟩, by dsimp only; omega, by dsimp only; omega⟩
/-- What is asked: 0 in one or both, 1 in both, 2 in the first alone, 3 not in the first. -/
def asked (kind : Int) (x y : Bool) : Bool := (decide (kind = 0) && (x || y)) || (decide (kind = 1) && x && y) || (decide (kind = 2) && x && !y) || (decide (kind = 3) && !x)
/-- The keys of which it is so. -/
def askB (kind : Int) (za zb : List Sp) (k : Int) : Bool := keyB k && asked kind (hasB za k) (hasB zb k)
/-- Between two cuts: what is told of the keys up to the i-th one. -/
def uptoK (p : Int → Bool) (x : Int) : Int → Prop := fun k => p k = true ∧ k < x
theorem uptoK_yes {kind : Int} {za zb : List Sp} {ns : List Int} (ha : CutOf za ns) (hb : CutOf zb ns) {x y : Int} (hno : ∀ z ∈ ns, ¬ (x < z ∧ z < y)) (hxy : x < y) (hx : 0 ≤ x) (hy : y ≤ 4294967296) (h : asked kind (hasB za x) (hasB zb x) = true) (k : Int) :
    grw (uptoK (askB kind za zb) x) x y k ↔ uptoK (askB kind za zb) y k := by
  unfold grw uptoK
  constructor
  · rintro (⟨g1, g2⟩ | ⟨g1, g2⟩)
    · exact ⟨g1, by omega⟩
    · refine ⟨?_, g2⟩
      unfold askB
      rw [hasB_flat ha hno g1 g2, hasB_flat hb hno g1 g2, h]
      unfold keyB
      simp
      omega
  · rintro ⟨g1, g2⟩
    by_cases hk : k < x
    · exact .inl ⟨g1, hk⟩
    · exact .inr ⟨by omega, g2⟩
theorem uptoK_no {kind : Int} {za zb : List Sp} {ns : List Int} (ha : CutOf za ns) (hb : CutOf zb ns) {x y : Int} (hno : ∀ z ∈ ns, ¬ (x < z ∧ z < y)) (hxy : x < y) (h : asked kind (hasB za x) (hasB zb x) = false) (k : Int) :
    uptoK (askB kind za zb) x k ↔ uptoK (askB kind za zb) y k := by
  unfold uptoK
  constructor
  · rintro ⟨g1, g2⟩
    exact ⟨g1, by omega⟩
  · rintro ⟨g1, g2⟩
    refine ⟨g1, Classical.byContradiction fun hk => ?_⟩
    unfold askB at g1
    rw [hasB_flat ha hno (by omega) g2, hasB_flat hb hno (by omega) g2, h] at g1
    simp at g1
end Go.Proofs.YtmdhbbibghpijaaDoor
namespace Go.Proofs.YtmdhbbibghpijaaDoor
open Go.RowKit

theorem keep_grown {w w1 w2 : World} {e : TypeId} {size : Nat} {v : Value} {n : Nat} {xs : List Value} (hk : Keep w w1) (ho : w1.ownsRow w.heap.size e size v n xs) (hg : w1.grownBy w2 v.ownBlock) : Keep w w2 :=
  Only.keep hk ((Only.refl (fun q => w.heap.size ≤ q) _).grown hg (fun q _ e => (ho.lt q e).1)) (fun k hk => by omega)
/-- A row of numbers in a block of its own. -/
def PutPost (w : World) (ns : List Int) (k : Int) (e : Ending) (w' : World) : Prop := ∃ A' n' c' ms, e = .returned (.slice A' n' c') ∧ Nums w' A' n' c' ms ∧ Put ns k ms ∧ Keep w w'
theorem one_i64 (w : World) (z : Int) : Lies (w.alloc (.cells #[.int .i64 z] 2)) (w.heap.size + 1) (some ⟨w.heap.size, 0, none⟩) 1 (vals .i64 [z]) := by
  refine ⟨rfl, fun _ => ⟨w.heap.size, 0, rfl, by omega, fun j hj => ?_⟩⟩
  have hb := World.alloc_heap_new w (.cells #[.int .i64 z] 2)
  obtain rfl : j = 0 := by omega
  generalize w.alloc (.cells #[.int .i64 z] 2) = V at *
  simp [World.cell?, hb, vals]
theorem lies_first {w : World} {B : Nat} {A : Option Addr} {n : Nat} {ns : List Int} (h : Lies w B A n (vals .i64 ns)) {j : Nat} (hj : j ≤ n) : Lies w B A j (vals .i64 (ns.take j)) := by
  have hl : ns.length = n := by have := h.1; rwa [vals_length] at this
  refine ⟨by rw [vals_length, List.length_take]; omega, fun h0 => ?_⟩
  obtain ⟨b, off, e, hb, hc⟩ := h.2 (by omega)
  refine ⟨b, off, e, hb, fun i hi => ?_⟩
  rw [hc i (by omega), vals_getD _ _ _ (by omega), vals_getD _ _ _ (by rw [List.length_take]; omega)]
  simp [List.getD_eq_getElem?_getD, hi]
theorem lies_zero (w : World) (A : Option Addr) {j : Nat} (ns : List Int) (hl : ns.length = j) : Lies w w.heap.size A 0 (vals .i64 (ns.drop j)) :=
  ⟨by rw [vals_length, List.length_drop]; omega, fun h => by omega⟩
theorem lies_rest {w : World} {B b off n : Nat} {ns : List Int} (h : Lies w B (some ⟨b, off, none⟩) n (vals .i64 ns)) {j : Nat} (hj : j ≤ n) : Lies w B (some ⟨b, off + j, none⟩) (n - j) (vals .i64 (ns.drop j)) := by
  have hl : ns.length = n := by have := h.1; rwa [vals_length] at this
  refine ⟨by rw [vals_length, List.length_drop]; omega, fun h0 => ?_⟩
  obtain ⟨b', off', e, hb, hc⟩ := h.2 (by omega)
  cases e
  refine ⟨b, off + j, rfl, hb, fun i hi => ?_⟩
  rw [show off + j + i = off + (j + i) by omega, hc (j + i) (by omega), vals_getD _ _ _ (by omega), vals_getD _ _ _ (by rw [List.length_drop]; omega)]
  simp [List.getD_eq_getElem?_getD, List.getElem?_drop]

theorem put_split {ns : List Int} {j : Nat} {k : Int} (h : Up ns) (h1 : ∀ z ∈ ns.take j, z < k) (h2 : ∀ z ∈ ns.drop j, k < z) : Put ns k (ns.take j ++ [k] ++ ns.drop j) := by
  have := put_new (xs := ns.take j) (ys := ns.drop j) (k := k) (by rwa [List.take_append_drop]) h1 h2
  rwa [List.take_append_drop] at this
theorem put_row {w : World} {base n c : Nat} {A : Option Addr} {xs ys : List Int} {k : Int} (h : w.ownsRow base 2 1 (.slice A n c) n (vals .i64 xs ++ vals .i64 [k] ++ vals .i64 ys)) : Nums w A n c (xs ++ [k] ++ ys) :=
  nums_row (by rwa [vals_append, vals_append])

set_option maxRecDepth 100000 in
set_option maxHeartbeats 4000000 in
theorem put_any (A : Option Addr) (n c : Nat) (ns : List Int) (k : Int) (w : World) (h : Nums w A n c ns) (hup : Up ns) (hn : n ≤ 1000000) (h0 : 0 < n) :
    Calls Tryd.prog 72 #[.slice A n c, .int .i64 k] w (PutPost w ns k) := by
  obtain ⟨i0, hi, hz0, hz1, hz2⟩ := info_parts infoI64
  have HL := Lib.hid h.len
  obtain ⟨b, off, e, hb, hc⟩ := h.lies.2 h0
  subst e
  have HC := Lib.hid hc
  have HA := Lib.hid h
  have HUP := Lib.hid hup
  have hni : (n : Int) ≤ 1000000 := by omega
  have hcap : (n : Int) ≤ (c : Int) := by have := h.cap; omega
  have hk0 := (Keep.refl w).alloc (.cells #[] 2)
  have ho0 := World.ownsRow_made (base := w.heap.size) (e := 2) (size := 1) w #[] 0 (by simp) (by simp) rfl
  have HO0 := Lib.hid ho0
  have HK0 := Lib.hid hk0
  clear h hup hc hk0 ho0
  go_enter Tryd.func72, Tryd.ntmps72
  go_wp2_with fail
  go_loopw [5] (fun i wr => w = wr ∧ ∃ (j : Nat), j ≤ n ∧ i = .int .i64 j ∧ ∀ z ∈ ns.take j, z < k) (fun i _ => n - (intOf i).toNat)
  case atStart => exact ⟨rfl, 0, Nat.zero_le _, rfl, by simp⟩
  case round =>
    obtain ⟨rfl, j, hj, rfl, hlo⟩ := hrel
    have HLO := Lib.hid hlo
    clear hlo
    by_cases hlt : j < n
    · obtain ⟨x, hx⟩ : ∃ x, ns[j]? = some x := ⟨_, List.getElem?_eq_getElem (by rw [HL.out]; exact hlt)⟩
      have c0 : w.cell? ⟨b, off + j, none⟩ = some (.int .i64 x) := by rw [HC.out j hlt, vals_gi hx]
      have hji : (j : Int) < (n : Int) := by omega
      have HX := Lib.hid hx
      clear hx
      rcases Int.lt_trichotomy x k with hlt2 | heq | hgt
      · have HT := Lib.hid (show ∀ z ∈ ns.take (j + 1), z < k by
          rw [List.take_add_one, HX.out]
          intro z hz
          rcases List.mem_append.1 hz with g | g
          · exact HLO.out z g
          · simp at g; omega)
        go_wp2_with fail
        go_roundw
        case rel => exact ⟨by first | rfl | trivial, j + 1, hlt, by go_num, HT.out⟩
        case measure => simp [intOf]; omega
      · subst heq
        have hm : x ∈ ns := List.mem_of_getElem? HX.out
        have HP := Lib.hid (put_same HUP.out hm)
        have hlx : ¬ x < x := by omega
        go_wp2_with fail
        go_ret
        exact ⟨_, n, c, ns, rfl, HA.out, HP.out, Keep.refl _⟩
      · have hlx : ¬ x < k := by omega
        have hne : (x == k) = false := by rw [beq_eq_false_iff_ne]; omega
        have hjc : ¬ c = j := by omega
        have hjc2 : (j : Int) ≤ (c : Int) := by omega
        have HF := Lib.hid ((lies_first HA.out.lies (show j ≤ n by omega)).below HK0.out)
        have HR := Lib.hid (lies_rest HA.out.lies (show j ≤ n by omega))
        have HN := Lib.hid (fun (hall : ∀ z ∈ ns.drop j, k < z) => put_split HUP.out HLO.out hall)
        have HBH := Lib.hid (behind HUP.out HX.out hgt)
        go_wp2_with (first
          | (at_builtin; refine wpList_append_from rfl _ _ 71 rfl w.heap.size 2 i0 (.int .i64 0) 8 Tryd.underlying71 hi hz0 hz1 hz2 rfl _ (j + 1) (vals .i64 (ns.take j) ++ vals .i64 [k]) rfl HO2.out w.heap.size (some ⟨b, off + j, none⟩) _ _ (vals .i64 (ns.drop j)) rfl (HR.out.below HK2.out) (fun h => by cases h) (vals_one _ _) (by unfold maxLen; omega) (by omega) (by have := HK2.out.size; omega) ?_; intro A3 c3 w3 hown3 hgrow3 hat3; have HO3 := Lib.hid hown3; have HK3 := Lib.hid (keep_grown HK2.out HO2.out hgrow3); clear hown3 hgrow3 hat3)
          | (at_builtin; refine wpList_append_from rfl _ _ 71 rfl w.heap.size 2 i0 (.int .i64 0) 8 Tryd.underlying71 hi hz0 hz1 hz2 rfl _ j (vals .i64 (ns.take j)) rfl (HO1.out.alloc _) (w1.heap.size + 1) (some ⟨w1.heap.size, 0, none⟩) 1 1 (vals .i64 [k]) rfl (one_i64 w1 k) (fun h => by cases h) (vals_one _ _) (by unfold maxLen; omega) (by omega) (by have := HK1.out.size; simp at this ⊢; omega) ?_; intro A2 c2 w2 hown2 hgrow2 hat2; have HO2 := Lib.hid hown2; have HK2 := Lib.hid (keep_grown (HK1.out.alloc _) (HO1.out.alloc _) hgrow2); clear hown2 hgrow2 hat2)
          | (at_builtin; go_must (refine wpList_append_from rfl _ _ 71 rfl w.heap.size 2 i0 (.int .i64 0) 8 Tryd.underlying71 hi hz0 hz1 hz2 rfl _ 0 [] rfl HO0.out w.heap.size (some ⟨b, off, none⟩) j c (vals .i64 (ns.take j)) rfl HF.out (fun h => by cases h) (vals_one _ _) (by unfold maxLen; omega) (by omega) (by simp) ?_); intro A1 c1 w1 hown1 hgrow1 hat1; have HK1 := Lib.hid (keep_grown HK0.out HO0.out hgrow1); rw [Nat.zero_add, List.nil_append] at hown1; rw [Nat.zero_add]; have HO1 := Lib.hid hown1; clear hown1 hgrow1 hat1))
        go_ret
        exact ⟨_, _, _, _, rfl, put_row HO3.out, HN.out HBH.out, HK3.out⟩
    · obtain rfl : j = n := by omega
      clear hlt
      have hjj : (j : Int) ≤ (j : Int) := Int.le_refl _
      have HF := Lib.hid ((lies_first HA.out.lies (Nat.le_refl j)).below HK0.out)
      by_cases hcn : c = j
      · subst hcn
        obtain ⟨j, hjc⟩ : ∃ j, j = c := ⟨_, rfl⟩
        subst hjc
        have HR := Lib.hid (lies_zero w (some ⟨b, off, none⟩) ns HL.out)
        go_wp2_with (first
          | (at_builtin; refine wpList_append_from rfl _ _ 71 rfl w.heap.size 2 i0 (.int .i64 0) 8 Tryd.underlying71 hi hz0 hz1 hz2 rfl _ (j + 1) (vals .i64 (ns.take j) ++ vals .i64 [k]) rfl HO2.out w.heap.size (some ⟨b, off, none⟩) _ _ (vals .i64 (ns.drop j)) rfl (HR.out.below HK2.out) (fun h => by cases h) (vals_one _ _) (by unfold maxLen; omega) (by omega) (by have := HK2.out.size; omega) ?_; intro A3 c3 w3 hown3 hgrow3 hat3; have HO3 := Lib.hid hown3; have HK3 := Lib.hid (keep_grown HK2.out HO2.out hgrow3); clear hown3 hgrow3 hat3)
          | (at_builtin; refine wpList_append_from rfl _ _ 71 rfl w.heap.size 2 i0 (.int .i64 0) 8 Tryd.underlying71 hi hz0 hz1 hz2 rfl _ j (vals .i64 (ns.take j)) rfl (HO1.out.alloc _) (w1.heap.size + 1) (some ⟨w1.heap.size, 0, none⟩) 1 1 (vals .i64 [k]) rfl (one_i64 w1 k) (fun h => by cases h) (vals_one _ _) (by unfold maxLen; omega) (by omega) (by have := HK1.out.size; simp at this ⊢; omega) ?_; intro A2 c2 w2 hown2 hgrow2 hat2; have HO2 := Lib.hid hown2; have HK2 := Lib.hid (keep_grown (HK1.out.alloc _) (HO1.out.alloc _) hgrow2); clear hown2 hgrow2 hat2)
          | (at_builtin; go_must (refine wpList_append_from rfl _ _ 71 rfl w.heap.size 2 i0 (.int .i64 0) 8 Tryd.underlying71 hi hz0 hz1 hz2 rfl _ 0 [] rfl HO0.out w.heap.size (some ⟨b, off, none⟩) j j (vals .i64 (ns.take j)) rfl HF.out (fun h => by cases h) (vals_one _ _) (by unfold maxLen; omega) (by omega) (by simp) ?_); intro A1 c1 w1 hown1 hgrow1 hat1; have HK1 := Lib.hid (keep_grown HK0.out HO0.out hgrow1); rw [Nat.zero_add, List.nil_append] at hown1; rw [Nat.zero_add]; have HO1 := Lib.hid hown1; clear hown1 hgrow1 hat1))
        go_ret
        exact ⟨_, _, _, _, rfl, put_row HO3.out, put_split HUP.out HLO.out (fun z hz => by rw [List.drop_of_length_le (by rw [HL.out]; exact Nat.le_refl _)] at hz; cases hz), HK3.out⟩
      · have HR := Lib.hid (lies_zero w (some ⟨b, off + j, none⟩) ns HL.out)
        go_wp2_with (first
          | (at_builtin; refine wpList_append_from rfl _ _ 71 rfl w.heap.size 2 i0 (.int .i64 0) 8 Tryd.underlying71 hi hz0 hz1 hz2 rfl _ (j + 1) (vals .i64 (ns.take j) ++ vals .i64 [k]) rfl HO2.out w.heap.size (some ⟨b, off + j, none⟩) _ _ (vals .i64 (ns.drop j)) rfl (HR.out.below HK2.out) (fun h => by cases h) (vals_one _ _) (by unfold maxLen; omega) (by omega) (by have := HK2.out.size; omega) ?_; intro A3 c3 w3 hown3 hgrow3 hat3; have HO3 := Lib.hid hown3; have HK3 := Lib.hid (keep_grown HK2.out HO2.out hgrow3); clear hown3 hgrow3 hat3)
          | (at_builtin; refine wpList_append_from rfl _ _ 71 rfl w.heap.size 2 i0 (.int .i64 0) 8 Tryd.underlying71 hi hz0 hz1 hz2 rfl _ j (vals .i64 (ns.take j)) rfl (HO1.out.alloc _) (w1.heap.size + 1) (some ⟨w1.heap.size, 0, none⟩) 1 1 (vals .i64 [k]) rfl (one_i64 w1 k) (fun h => by cases h) (vals_one _ _) (by unfold maxLen; omega) (by omega) (by have := HK1.out.size; simp at this ⊢; omega) ?_; intro A2 c2 w2 hown2 hgrow2 hat2; have HO2 := Lib.hid hown2; have HK2 := Lib.hid (keep_grown (HK1.out.alloc _) (HO1.out.alloc _) hgrow2); clear hown2 hgrow2 hat2)
          | (at_builtin; go_must (refine wpList_append_from rfl _ _ 71 rfl w.heap.size 2 i0 (.int .i64 0) 8 Tryd.underlying71 hi hz0 hz1 hz2 rfl _ 0 [] rfl HO0.out w.heap.size (some ⟨b, off, none⟩) j c (vals .i64 (ns.take j)) rfl HF.out (fun h => by cases h) (vals_one _ _) (by unfold maxLen; omega) (by omega) (by simp) ?_); intro A1 c1 w1 hown1 hgrow1 hat1; have HK1 := Lib.hid (keep_grown HK0.out HO0.out hgrow1); rw [Nat.zero_add, List.nil_append] at hown1; rw [Nat.zero_add]; have HO1 := Lib.hid hown1; clear hown1 hgrow1 hat1))
        go_ret
        exact ⟨_, _, _, _, rfl, put_row HO3.out, put_split HUP.out HLO.out (fun z hz => by rw [List.drop_of_length_le (by rw [HL.out]; exact Nat.le_refl _)] at hz; cases hz), HK3.out⟩
end Go.Proofs.YtmdhbbibghpijaaDoor
namespace Go.Proofs.YtmdhbbibghpijaaDoor
open Go.RowKit

/-- What grow answers: a set in a row of its own, with the keys from x to y - 1. -/
def GrowPost (w : World) (base n : Nat) (p : Int → Prop) (x y : Int) (e : Ending) (w' : World) : Prop :=
  ∃ A' n' c' r', e = .returned (.slice A' n' c') ∧ Own w' base A' n' c' r' ∧ IsSet r' (grw p x y) ∧ n' ≤ n + 1 ∧ Only (fun q => base ≤ q) w w'
theorem own_prs {w : World} {base n c : Nat} {A : Option Addr} {zs : List Sp} (h : Own w base A n c zs) : SpS w w.heap.size A n zs ∧ n ≤ c := by
  rcases h.2 with ⟨e, h0⟩ | ⟨g, cap, cur, e, _, _, hle, _⟩
  · cases e
    obtain ⟨A', c', e, hp⟩ := Prs.of_row h
    cases e
    exact ⟨hp, Nat.le_refl _⟩
  · cases e
    obtain ⟨A', c', e, hp⟩ := Prs.of_row h
    cases e
    exact ⟨hp, hle⟩
theorem one_sp (w : World) (lo hi : Int) : SpS (w.alloc (.cells #[.int .u32 lo, .int .u32 hi] 37)) (w.alloc (.cells #[.int .u32 lo, .int .u32 hi] 37)).heap.size (some ⟨w.heap.size, 0, none⟩) 1 [⟨lo, hi⟩] :=
  Prs.made (f := fun s : Sp => Value.int .u32 s.lo) (g := fun s : Sp => Value.int .u32 s.hi) w #[.int .u32 lo, .int .u32 hi] 37 [(⟨lo, hi⟩ : Sp)] rfl

set_option maxRecDepth 100000 in
set_option maxHeartbeats 4000000 in
theorem grow_end {w : World} {base n c : Nat} {A : Option Addr} {zs : List Sp} {p : Int → Prop} {x y : Int} (h : Own w base A n c zs) (hb : base ≤ w.heap.size) (hs : IsSet zs p) (hp : ∀ k, p k → k < x) (hxy : x < y) (hx : 0 ≤ x) (hy : y ≤ 4294967296) (hn : n ≤ 100000) (hl : ∀ q t, zs = q ++ [t] → t.hi + 1 ≠ x) :
    Calls Tryd.prog 57 #[.slice A n c, .int .i64 x, .int .i64 y] w (GrowPost w base n p x y) := by
  obtain ⟨i0, hi, hz0, hz1, hz2⟩ := info_parts infoSp
  have hset := grow_new hs hp hxy hx hy hl
  have hy1 : 0 ≤ y - 1 := by omega
  have hy2 : y - 1 ≤ 4294967295 := by omega
  have hx2 : x ≤ 4294967295 := by omega
  have HS := Lib.hid hset
  have HO := Lib.hid h
  have HB := Lib.hid hb
  have hle := h.1
  have hlen : zs.length = n := by rw [prc_length] at hle; omega
  have HLEN := Lib.hid hlen
  have hml : n + 1 ≤ maxLen := by unfold maxLen; omega
  have hby : (n + 1) * 8 ≤ 140737488355328 := by omega
  have HK1 := Lib.hid ((Only.refl (fun q => base ≤ q) w).alloc (.cells #[.int .u32 x, .int .u32 (y - 1)] 37))
  have HP := Lib.hid (one_sp w x (y - 1))
  have HOA := Lib.hid (h.alloc (.cells #[.int .u32 x, .int .u32 (y - 1)] 37))
  have hbs : base ≤ (w.alloc (.cells #[.int .u32 x, .int .u32 (y - 1)] 37)).heap.size := by simp; omega
  rcases snoc_cases zs with rfl | ⟨q, t, rfl⟩
  · obtain rfl : n = 0 := by simpa using hlen.symm
    clear hset h hb hs hp hl hle hlen
    go_enter Tryd.func57, Tryd.ntmps57
    go_wp2_with (at_builtin; go_must (refine wpList_append_prs rfl _ _ 32 rfl base 37 i0 (.agg #[.int .u32 0, .int .u32 0]) 8 Tryd.underlying32 hi hz0 hz1 hz2 rfl spOne _ 0 [] rfl HOA.out _ _ 1 1 [⟨x, y - 1⟩] rfl HP.out (fun h => by cases h) hml hby hbs ?_); intro A6 c6 w6 hown6 hgrow6 _; have HO6 := Lib.hid hown6; have HG6 := Lib.hid hgrow6; clear hown6 hgrow6)
    go_ret
    exact ⟨_, _, _, _, rfl, HO6.out, HS.out, by omega, HK1.out.grown HG6.out (fun k _ e => (HOA.out.lt k e).1)⟩
  · obtain rfl : n = q.length + 1 := by simpa using hlen.symm
    obtain ⟨g, rfl, hbg, hg, c1, c0, -, -⟩ := own_last h 0
    have hne : (t.hi + 1 == x) = false := by rw [beq_eq_false_iff_ne]; exact hl q t rfl
    obtain ⟨⟨o1, o2⟩, o3, o4⟩ := hs.ok t (by simp)
    have hcap := (own_prs h).2
    have hpos : (0 : Int) < ((q.length + 1 : Nat) : Int) := by omega
    generalize q.length = m at *
    clear hset h hb hs hp hl hle hlen c0 o1 o2
    go_enter Tryd.func57, Tryd.ntmps57
    go_wp2_with (at_builtin; go_must (refine wpList_append_prs rfl _ _ 32 rfl base 37 i0 (.agg #[.int .u32 0, .int .u32 0]) 8 Tryd.underlying32 hi hz0 hz1 hz2 rfl spOne _ (m + 1) (q ++ [t]) rfl HOA.out _ _ 1 1 [⟨x, y - 1⟩] rfl HP.out (fun h => by cases h) hml hby hbs ?_); intro A6 c6 w6 hown6 hgrow6 _; have HO6 := Lib.hid hown6; have HG6 := Lib.hid hgrow6; clear hown6 hgrow6)
    go_ret
    exact ⟨_, _, _, _, rfl, HO6.out, HS.out, by omega, HK1.out.grown HG6.out (fun k _ e => (HOA.out.lt k e).1)⟩

set_option maxRecDepth 100000 in
set_option maxHeartbeats 4000000 in
theorem grow_join {w : World} {base c : Nat} {A : Option Addr} {q : List Sp} {t : Sp} {p : Int → Prop} {x y : Int} (h : Own w base A (q.length + 1) c (q ++ [t])) (hb : base ≤ w.heap.size) (hs : IsSet (q ++ [t]) p) (hxy : x < y) (hx : 0 ≤ x) (hy : y ≤ 4294967296) (hn : q.length ≤ 100000) (hl : t.hi + 1 = x) :
    Calls Tryd.prog 57 #[.slice A (q.length + 1) c, .int .i64 x, .int .i64 y] w (GrowPost w base (q.length + 1) p x y) := by
  obtain ⟨i0, hi, hz0, hz1, hz2⟩ := info_parts infoSp
  have hset := grow_last hs hxy hy hl
  have hy1 : 0 ≤ y - 1 := by omega
  have hy2 : y - 1 ≤ 4294967295 := by omega
  have HS := Lib.hid hset
  obtain ⟨g, rfl, hbg, hg, c1, c0, -, -⟩ := own_last h 0
  have hne : (t.hi + 1 == x) = true := by rw [beq_iff_eq]; exact hl
  obtain ⟨⟨o1, o2⟩, o3, o4⟩ := hs.ok t (by simp)
  have hcap := (own_prs h).2
  have hsp := (own_prs h).1.part 0 q.length (by omega)
  simp only [Nat.zero_mul, Nat.add_zero, List.drop_zero, List.take_append_of_le_length (Nat.le_refl _), List.take_length] at hsp
  have hpos : (0 : Int) < ((q.length + 1 : Nat) : Int) := by omega
  have hset' := HS.out
  clear HS hset hl hs
  generalize q.length = m at *
  have HS := Lib.hid hset'
  have HQ := Lib.hid hsp
  have HB := Lib.hid hb
  have sa := SpAt.new w ⟨t.lo, y - 1⟩
  dsimp only at sa
  have hka : Keep w (w.alloc (.cells #[.int .u32 t.lo, .int .u32 (y - 1)] 37)) := (Keep.refl w).alloc _
  have hsa : (w.alloc (.cells #[.int .u32 t.lo, .int .u32 (y - 1)] 37)).heap.size = w.heap.size + 1 := by simp
  have HA := Lib.hid (And.intro sa (And.intro hka hsa))
  have HO0 := Lib.hid (World.ownsRow_made (base := w.heap.size + 1) (e := 37) (size := 2) (w.alloc (.cells #[.int .u32 t.lo, .int .u32 (y - 1)] 37)) #[] 0 (by simp) (by simp) rfl)
  rw [hsa] at HO0
  have HKB := Lib.hid (show Keep (w.alloc (.cells #[.int .u32 t.lo, .int .u32 (y - 1)] 37)) ((w.alloc (.cells #[.int .u32 t.lo, .int .u32 (y - 1)] 37)).alloc (.cells #[] 37)) from (Keep.refl _).alloc _)
  have hml : 0 + m ≤ maxLen := by unfold maxLen; omega
  have hby : (0 + m) * 8 ≤ 140737488355328 := by omega
  have hml2 : m + 1 ≤ maxLen := by unfold maxLen; omega
  have hby2 : (m + 1) * 8 ≤ 140737488355328 := by omega
  clear hset' h hb hsp sa hka hsa
  go_enter Tryd.func57, Tryd.ntmps57
  go_wp2_with (first
    | (at_builtin; refine wpList_append_prs rfl _ _ 32 rfl (w.heap.size + 1) 37 i0 (.agg #[.int .u32 0, .int .u32 0]) 8 Tryd.underlying32 hi hz0 hz1 hz2 rfl spOne _ m q rfl (HO1.out.alloc _) _ (some ⟨w1.heap.size, 0, none⟩) 1 1 [⟨t.lo, y - 1⟩] rfl (one_sp w1 t.lo (y - 1)) (fun h => by cases h) hml2 hby2 (by have := HK1.out.size; simp at this ⊢; omega) ?_; intro A2 c2 w2 hown2 hgrow2 _; have HO2 := Lib.hid hown2; have HK2 := Lib.hid (Only.keep (HK1.out.alloc _) ((Only.refl (fun k => w.heap.size + 1 ≤ k) _).grown hgrow2 (fun k _ e => (HO1.out.lt k e).1)) (fun k hk => by omega)); clear hown2 hgrow2)
    | (at_builtin; go_must (refine wpList_append_prs rfl _ _ 32 rfl (w.heap.size + 1) 37 i0 (.agg #[.int .u32 0, .int .u32 0]) 8 Tryd.underlying32 hi hz0 hz1 hz2 rfl spOne _ 0 [] rfl HO0.out _ _ m c q rfl (HQ.out.below (HA.out.2.1.trans HKB.out)) (fun h => by cases h) hml hby (by simp) ?_); intro A1 c1' w1 hown1 hgrow1 _; have ho1 := (Only.refl (fun k => w.heap.size + 1 ≤ k) _).grown hgrow1 (fun k _ e => (HO0.out.lt k e).1); have hk1 := Only.keep (HA.out.2.1.trans HKB.out) ho1 (fun k hk => by omega); have ha1 := (ho1.block w.heap.size (by simp; omega) (by omega)).trans (SpAt.keep HA.out.1 HKB.out); obtain ⟨e0, e1⟩ := SpAt.cells (show SpAt w1 w.heap.size ⟨t.lo, y - 1⟩ from ha1); dsimp only at e0 e1; have HK1 := Lib.hid hk1; rw [Nat.zero_add, List.nil_append] at hown1; rw [Nat.zero_add]; have HO1 := Lib.hid hown1; clear hown1 hgrow1 ho1 hk1 ha1))
  go_ret
  exact ⟨_, _, _, _, rfl, ownsRow_le HO2.out (by have := HB.out; omega), HS.out, by omega, Only.of_keep _ HK2.out⟩
end Go.Proofs.YtmdhbbibghpijaaDoor
namespace Go.Proofs.YtmdhbbibghpijaaDoor
open Go.RowKit

theorem CutOf.append {xs ys : List Sp} {ns : List Int} (h : CutOf xs ns) (h2 : CutOf ys ns) : CutOf (xs ++ ys) ns := fun s hs he => by
  rcases List.mem_append.1 hs with g | g
  · exact h s g he
  · exact h2 s g he
/-- Lists of spans, one behind the other, in a row that is only read. -/
def Lss (w : World) (a : Option Addr) (zss : List (List Sp)) : Prop :=
  ∀ (i : Nat) (zs : List Sp), zss[i]? = some zs → ∃ b off Ai ci, a = some ⟨b, off, none⟩ ∧ b < w.heap.size ∧ w.cell? ⟨b, off + i, none⟩ = some (.slice Ai zs.length ci) ∧ Arg w Ai zs.length ci zs
/-- The cuts of the spans that came. -/
def CutI (W : World) (A : Option Addr) (n c : Nat) (pre : List Sp) : Prop :=
  ∃ ns, Nums W A n c ns ∧ Up ns ∧ 0 < n ∧ (∀ z ∈ ns, 0 ≤ z ∧ z ≤ 4294967296) ∧ (0 ∈ ns ∧ 4294967296 ∈ ns) ∧ CutOf pre ns ∧ n ≤ 2 + 2 * pre.length
theorem CutI.keep {W W' : World} {A : Option Addr} {n c : Nat} {pre : List Sp} (h : CutI W A n c pre) (hk : Keep W W') : CutI W' A n c pre := by
  obtain ⟨ns, h1, h2⟩ := h
  exact ⟨ns, h1.keep hk, h2⟩
theorem CutI.skip {W : World} {A : Option Addr} {n c : Nat} {pre : List Sp} {s : Sp} (h : CutI W A n c pre) (hs : ¬ s.lo ≤ s.hi) : CutI W A n c (pre ++ [s]) := by
  obtain ⟨ns, h1, h2, h3, h4, h5, h6, h7⟩ := h
  refine ⟨ns, h1, h2, h3, h4, h5, h6.append (fun t ht he => ?_), by simp; omega⟩
  simp at ht
  subst ht
  exact absurd he hs
theorem CutI.two {W : World} {A : Option Addr} {n c : Nat} {pre : List Sp} {s : Sp} {ns ms ks : List Int} (h4 : ∀ z ∈ ns, 0 ≤ z ∧ z ≤ 4294967296) (h5 : 0 ∈ ns ∧ 4294967296 ∈ ns) (h6 : CutOf pre ns) (hl : ns.length ≤ 2 + 2 * pre.length)
    (p1 : Put ns s.lo ms) (p2 : Put ms (s.hi + 1) ks) (hn : Nums W A n c ks) (hs : s.ok) : CutI W A n c (pre ++ [s]) := by
  obtain ⟨⟨o1, o2⟩, o3, o4⟩ := hs
  have hsub : ∀ z ∈ ns, z ∈ ks := fun z hz => (p2.mem z).2 (.inl ((p1.mem z).2 (.inl hz)))
  have hlen := hn.len
  have hpos : 0 < ks.length := List.length_pos_of_mem (hsub 0 h5.1)
  have l1 := p1.len
  have l2 := p2.len
  refine ⟨ks, hn, p2.up, by omega, fun z hz => ?_, ⟨hsub _ h5.1, hsub _ h5.2⟩, (h6.mono hsub).append (fun t ht he => ?_), by simp; omega⟩
  · rcases (p2.mem z).1 hz with g | rfl
    · rcases (p1.mem z).1 g with g | rfl
      · exact h4 z g
      · omega
    · omega
  · simp at ht
    subst ht
    exact ⟨(p2.mem _).2 (.inl ((p1.mem _).2 (.inr rfl))), (p2.mem _).2 (.inr rfl)⟩
theorem cut_start (w : World) : CutI (w.alloc (.cells #[.int .i64 0, .int .i64 4294967296] 2)) (some ⟨w.heap.size, 0, none⟩) 2 2 [] := by
  refine ⟨[0, 4294967296], ⟨⟨rfl, fun _ => ⟨w.heap.size, 0, rfl, by simp, fun j hj => ?_⟩⟩, Nat.le_refl _, (fun h => by cases h)⟩, by simp [Up], by decide, by simp, by simp, (fun s hs => by cases hs), by decide⟩
  have hb := World.alloc_heap_new w (.cells #[.int .i64 0, .int .i64 4294967296] 2)
  generalize w.alloc (.cells #[.int .i64 0, .int .i64 4294967296] 2) = V at *
  rcases (show j = 0 ∨ j = 1 by omega) with rfl | rfl
  · simp [World.cell?, hb, vals]
  · simp [World.cell?, hb, vals]
theorem flat_snoc {zss : List (List Sp)} {i : Nat} {zs : List Sp} (h : zss[i]? = some zs) : (zss.take (i + 1)).flatten = (zss.take i).flatten ++ zs := by
  rw [List.take_add_one, h]
  simp
/-- What Cuts answers. -/
def CutsPost (w : World) (zs : List Sp) (e : Ending) (w' : World) : Prop := ∃ A n c, e = .returned (.slice A n c) ∧ CutI w' A n c zs ∧ Keep w w'

set_option maxRecDepth 100000 in
set_option maxHeartbeats 4000000 in
theorem cuts_any {w : World} {a : Option Addr} {n c : Nat} {zss : List (List Sp)} (h : Lss w a zss) (hl : zss.length = n) (hn : n ≤ 1000) (hM : zss.flatten.length ≤ 100000) :
    Calls Tryd.prog 56 #[.slice a n c] w (CutsPost w zss.flatten) := by
  have H := Lib.hid h
  have HL := Lib.hid hl
  have HM := Lib.hid hM
  have h0 := cut_start w
  have hk0 := (Keep.refl w).alloc (.cells #[.int .i64 0, .int .i64 4294967296] 2)
  have H0 := Lib.hid h0
  have HK0 := Lib.hid hk0
  clear h hl hM h0 hk0
  go_enter Tryd.func56, Tryd.ntmps56
  go_wp2_with fail
  generalize w.alloc (.cells #[.int .i64 0, .int .i64 4294967296] 2) = W0 at *
  go_loopw [3, 4] (fun cv i wr => ∃ (j : Nat) (A' : Option Addr) (n' c' : Nat), i = .int .i64 j ∧ cv = .slice A' n' c' ∧ j ≤ n ∧ Hid (CutI wr A' n' c' (zss.take j).flatten) ∧ Hid (Keep w wr)) (fun _ i _ => n - (intOf i).toNat)
  case atStart => exact ⟨0, _, _, _, rfl, rfl, Nat.zero_le _, H0, HK0⟩
  case round =>
    obtain ⟨j, A1, n1, c1, rfl, rfl, hj, HI, HK⟩ := hrel
    clear H0 HK0
    by_cases hlt : j < n
    · obtain ⟨zs, hz⟩ : ∃ zs, zss[j]? = some zs := ⟨_, List.getElem?_eq_getElem (by rw [HL.out]; exact hlt)⟩
      obtain ⟨b, off, Ai, ci, e, hb, hc, hg⟩ := H.out j zs hz
      subst e
      have hjm : (j : Int) < (n : Int) := by omega
      have HZ := Lib.hid hz
      have HG := Lib.hid hg
      have HC := Lib.hid (fun X (hX : Keep w X) => (hX.cell (p := ⟨b, off + j, none⟩) hb).trans hc)
      obtain ⟨m, hm⟩ : ∃ m, m = zs.length := ⟨_, rfl⟩
      have hmm : m ≤ 100000 := by
        have h1 : (zss.take (j + 1)).flatten.length ≤ zss.flatten.length := by
          conv => rhs; rw [← List.take_append_drop (j + 1) zss, List.flatten_append, List.length_append]
          omega
        rw [flat_snoc hz, List.length_append] at h1
        have := HM.out
        omega
      rw [← hm] at HC HG hc
      have HMM := Lib.hid hm
      clear hz hg hb hc hm
      go_wp2_with fail
      go_loopw [3, 5] (fun cv i wr => ∃ (q : Nat) (A' : Option Addr) (n' c' : Nat), i = .int .i64 q ∧ cv = .slice A' n' c' ∧ q ≤ m ∧ Hid (CutI wr A' n' c' ((zss.take j).flatten ++ zs.take q)) ∧ Hid (Keep w wr)) (fun _ i _ => m - (intOf i).toNat)
      case atStart => exact ⟨0, _, _, _, rfl, rfl, Nat.zero_le _, (by rw [List.take_zero, List.append_nil]; exact HI), HK⟩
      case round =>
        obtain ⟨q, A2, n2, c2, rfl, rfl, hq, HJ, HK2⟩ := hrel
        clear HI HK
        have c0 := HC.out wr HK2.out
        by_cases hqm : q < m
        · have hqi : (q : Int) < (m : Int) := by omega
          obtain ⟨s, hs⟩ : ∃ s, zs[q]? = some s := ⟨_, List.getElem?_eq_getElem (by rw [← HMM.out]; exact hqm)⟩
          obtain ⟨bi, oi, e, hbi, d0, d1⟩ := SpS.cells HG.out.prs q s hs
          subst e
          have hok := HG.out.ok s (List.mem_of_getElem? hs)
          have HD := Lib.hid (show ∀ X, Keep w X → X.cell? ⟨bi, oi + q * 2, none⟩ = some (.int .u32 s.lo) ∧ X.cell? ⟨bi, oi + q * 2 + 1, none⟩ = some (.int .u32 s.hi) from fun X hX => ⟨(hX.cell (p := ⟨bi, oi + q * 2, none⟩) hbi).trans d0, (hX.cell (p := ⟨bi, oi + q * 2 + 1, none⟩) hbi).trans d1⟩)
          have HTK := Lib.hid (show (zss.take j).flatten ++ zs.take (q + 1) = (zss.take j).flatten ++ zs.take q ++ [s] by rw [List.take_add_one, hs, List.append_assoc]; rfl)
          have HOK := Lib.hid hok
          obtain ⟨⟨o1, o2⟩, o3, o4⟩ := hok
          clear hs d0 d1 hbi
          obtain ⟨d0, d1⟩ := HD.out wr HK2.out
          by_cases hse : s.lo ≤ s.hi
          · obtain ⟨ns, hns, h2, h3, h4, h5, h6, h7⟩ := HJ.out
            have hbd : n2 ≤ 500000 := by
              have h1 : ((zss.take j).flatten ++ zs.take q).length ≤ zss.flatten.length := by
                have e1 := flat_snoc HZ.out
                have h2 : (zss.take (j + 1)).flatten.length ≤ zss.flatten.length := by
                  conv => rhs; rw [← List.take_append_drop (j + 1) zss, List.flatten_append, List.length_append]
                  omega
                rw [e1, List.length_append] at h2
                rw [List.length_append, List.length_take]
                omega
              have := HM.out
              omega
            have HN := Lib.hid hns
            have HNS := Lib.hid (And.intro h2 (And.intro h4 (And.intro h5 (And.intro h6 (show ns.length ≤ _ by rw [hns.len]; exact h7)))))
            have HN0 := Lib.hid h3
            clear hns h2 h3 h4 h5 h6 h7 HJ
            go_wp2_with fail
            go_quiet (fail)
            have HKV := Lib.hid (HK2.out.trans ((Keep.refl wr).drewN nq))
            have HNV := Lib.hid (HN.out.keep ((Keep.refl wr).drewN nq))
            have HLN := Lib.hid HN.out.len
            clear HK2 HN c0 d0 d1
            generalize wr.drewN nq = V at *
            have c0 := HC.out V HKV.out
            obtain ⟨d0, d1⟩ := HD.out V HKV.out
            go_wp2_with fail
            go_at_call 72
            refine (put_any _ _ _ ns s.lo V HNV.out HNS.out.1 (by omega) HN0.out).mono ?_
            rintro e w1 ⟨A3, n3, c3, ms, rfl, hn3, hp3, hk3⟩
            have HN3 := Lib.hid hn3
            have HP3 := Lib.hid hp3
            have HK3 := Lib.hid (HKV.out.trans hk3)
            clear c0 d0 d1
            have c0 := HC.out w1 HK3.out
            obtain ⟨d0, d1⟩ := HD.out w1 HK3.out
            clear hn3 hp3 hk3
            go_wp2_with fail
            go_at_call 72
            refine (put_any _ _ _ ms (s.hi + 1) w1 HN3.out HP3.out.up (by have h1 := HP3.out.len; have h2 := HN3.out.len; have h3 := HLN.out; omega) (by have h1 := List.length_pos_of_mem ((HP3.out.mem _).2 (.inr rfl)); have h2 := HN3.out.len; omega)).mono ?_
            rintro e w2 ⟨A4, n4, c4, ks, rfl, hn4, hp4, hk4⟩
            have HJ := Lib.hid (show CutI w2 A4 n4 c4 ((zss.take j).flatten ++ zs.take (q + 1)) by
              obtain ⟨h2, h4, h5, h6, h7⟩ := HNS.out
              rw [HTK.out]
              exact CutI.two h4 h5 h6 h7 HP3.out hp4 hn4 HOK.out)
            have HK4 := Lib.hid (HK3.out.trans hk4)
            clear hn4 hp4 hk4
            go_wp2_with fail
            go_roundw
            case rel => exact ⟨q + 1, _, _, _, by go_num, rfl, hqm, HJ, HK4⟩
            case measure => simp [intOf]; omega
          · have hse2 : ¬ s.lo ≤ s.hi := hse
            have HJ2 := Lib.hid (show CutI wr A2 n2 c2 ((zss.take j).flatten ++ zs.take (q + 1)) by rw [HTK.out]; exact HJ.out.skip hse)
            clear HJ
            go_wp2_with fail
            go_quiet (fail)
            have HKV := Lib.hid (HK2.out.trans ((Keep.refl wr).drewN nq))
            have HJV := Lib.hid (HJ2.out.keep ((Keep.refl wr).drewN nq))
            clear HK2 HJ2 c0 d0 d1
            generalize wr.drewN nq = V at *
            go_wp2_with fail
            go_roundw
            case rel => exact ⟨q + 1, _, _, _, by go_num, rfl, hqm, HJV, HKV⟩
            case measure => simp [intOf]; omega
        · obtain rfl : q = m := by omega
          clear hqm
          have HJ2 := Lib.hid (show CutI wr A2 n2 c2 (zss.take (j + 1)).flatten by
            rw [flat_snoc HZ.out]
            have := HJ.out
            have e : zs.take q = zs := List.take_of_length_le (by rw [← HMM.out]; exact Nat.le_refl _)
            rwa [e] at this)
          clear HJ
          go_wp2_with fail
          go_roundw
          case rel => exact ⟨j + 1, _, _, _, by go_num, rfl, hlt, HJ2, HK2⟩
          case measure => simp [intOf]; omega
    · obtain rfl : j = n := by omega
      have HE := Lib.hid (show CutI _ A1 n1 c1 zss.flatten by have := HI.out; rwa [List.take_of_length_le (by rw [HL.out]; exact Nat.le_refl _)] at this)
      clear hlt HI
      go_wp2_with fail
      go_ret
      exact ⟨_, _, _, rfl, HE.out, HK.out⟩
end Go.Proofs.YtmdhbbibghpijaaDoor
