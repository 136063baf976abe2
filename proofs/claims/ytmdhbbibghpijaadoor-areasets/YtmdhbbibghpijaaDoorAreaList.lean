/- The law's own cells: as many as are asked for, and come. -/
import Derived.Test.YtmdhbbibghpijaaDoorAreaCopy
namespace Go.Proofs.YtmdhbbibghpijaaDoor
open Go.RowKit Go.Shelf
attribute [local go_sem] Oper.semAt_some

/-- A cell's three numbers. -/
def clc (x : Int × Sp) : List Value := [.int .i64 x.1, .int .u32 x.2.lo, .int .u32 x.2.hi]
def cls (xs : List (Int × Sp)) : List Value := xs.flatMap clc
theorem cls_append (xs ys : List (Int × Sp)) : cls (xs ++ ys) = cls xs ++ cls ys := by simp [cls]
theorem infoCt : (Tryd.prog.info? 39).map (fun i => (i.zero, i.size, i.bytes)) = some (some (.agg #[.int .i64 0, .int .u32 0, .int .u32 0]), 3, 16) := by kernel_rfl
theorem own_heap3 {w : World} {base size : Nat} {e : TypeId} {v : Value} {n g : Nat} {xs : List Value} (h : w.ownsRow base e size v n xs) (hg : v.ownBlock = some g) : ∃ cur, w.heap[g]? = some (.cells cur e (0, 0)) := by
  rcases h.2 with ⟨rfl, _⟩ | ⟨g', cap, cur, rfl, _, hc, _⟩
  · cases hg
  · cases hg
    exact ⟨cur, hc⟩
section
variable {F : Fence} {n : Nat} {P : Program} {w : World}
/-- append onto a row of the call's own, inside a fence, with the block that it lies in then. -/
theorem wpListIn_append_sz {ops : Array Oper} {rest : List Oper} {o : Oper} {a : Act} {Q : Exit → Act → World → Prop} (hgd : o.guard = none) (s x : Operand) (t : TypeId)
    (ho : o.op = .call { callee := .builtin .append, args := #[s, x], argTypes := #[t, t] })
    (base : Nat) (e : TypeId) (i : TypeInfo) (z : Value) (size bytes : Nat) (ht : P.underlying t = some (.slice e)) (hi : P.info? e = some i) (hz : i.zero = some z)
    (hsize : i.size = size) (hby : i.bytes = bytes) (hzs : z.cells.size = size) (hsz : 0 < size)
    (v : Value) (m0 : Nat) (xs : List Value) (hs : a.eval s = v) (hown : w.ownsRow base e size v m0 xs)
    (ad : Addr) (m c : Nat) (news : List Value) (hx : a.eval x = .slice (some ad) m c) (hl : news.length = m * size) (hnews : ∀ j u, news[j]? = some u → w.cell? (ad.add j) = some u) (h1 : ∀ u ∈ news, u.oneCell' = true)
    (h63 : m0 + m ≤ maxLen) (hbytes : (m0 + m) * bytes ≤ 140737488355328) (hbase : base ≤ w.heap.size)
    (h : ∀ A' c' w', w'.ownsRow base e size (.slice A' (m0 + m) c') (m0 + m) (xs ++ news) → w.grownBy w' v.ownBlock → ((Value.slice A' (m0 + m) c').ownBlock = v.ownBlock ∨ (Value.slice A' (m0 + m) c').ownBlock = some w.heap.size) → wpListIn F n P ops Q rest (a.put o.dst (.slice A' (m0 + m) c')) w') :
    wpListIn F n P ops Q (o :: rest) a w := by
  refine wpListIn_plain hgd fun K hK => ?_
  obtain ⟨v', w', hr, h2, h3, _, h5⟩ := run_append_own_at (P := P) w base t o.type e i z size bytes ht hi hz hsize hby hzs hsz v m0 xs hown ad m c news hl hnews h1 h63 hbytes hbase
  obtain ⟨A', c', rfl⟩ : ∃ A' c', v' = .slice A' (m0 + m) c' := by
    rcases h2.2 with ⟨rfl, h0⟩ | ⟨g, cap, cur, rfl, _⟩
    · exact ⟨none, 0, by rw [h0]⟩
    · exact ⟨_, _, rfl⟩
  unfold Oper.wpIn
  refine ⟨?_, ?_⟩
  · simp [Oper.about, ho, resolve, Target.leads, Sem.run_pure]
  · rw [Oper.semAt_plain F _ _ (by rw [ho]; intro c hc'; cases hc')]
    simp [execOp, ho, resolve, invoke, builtin, hs, hx, hr, Result.andThen]
    exact hK _ _ (h A' c' w' h2 h3 h5)
end
theorem clc_news (w : World) (x : Int × Sp) : ∀ j u, (clc x)[j]? = some u → (w.alloc (.cells #[.int .i64 x.1, .int .u32 x.2.lo, .int .u32 x.2.hi] 39)).cell? ((⟨w.heap.size, 0, none⟩ : Addr).add j) = some u := by
  intro j u hu
  have h := World.alloc_heap_new w (.cells #[.int .i64 x.1, .int .u32 x.2.lo, .int .u32 x.2.hi] 39)
  rw [addr_add, Nat.zero_add]
  generalize w.alloc (.cells #[.int .i64 x.1, .int .u32 x.2.lo, .int .u32 x.2.hi] 39) = V at h ⊢
  rcases j with _ | _ | _ | j
  · simpa [World.cell?, h, clc] using hu
  · simpa [World.cell?, h, clc] using hu
  · simpa [World.cell?, h, clc] using hu
  · simp [clc] at hu
/-- What the law's own cells answers: a row of its own. -/
def ListPost (w : World) (ys : List (Int × Sp)) (e : Ending) (w' : World) : Prop :=
  ∃ (A : Option Addr) (c : Nat), e = .returned (.slice A ys.length c) ∧ w'.ownsRow w.heap.size 39 3 (.slice A ys.length c) ys.length (cls ys) ∧ Keep w w'
/-- Between two rounds. -/
def LstI (w : World) (B1 m c : Nat) (pre : List (Int × Sp)) (W : World) : Prop :=
  ∃ (A : Option Addr) (cc g : Nat), Boxed W (w.heap.size + 3) 34 (.slice A pre.length cc) ∧ W.ownsRow (w.heap.size + 2) 39 3 (.slice A pre.length cc) pre.length (cls pre) ∧ (Value.slice A pre.length cc).ownBlock = some g ∧ (g = w.heap.size + 2 ∨ B1 + 2 + c ≤ g) ∧
    Boxed W w.heap.size 3 (.int .i64 m) ∧ Boxed W (w.heap.size + 1) 34 (.slice none 0 0) ∧ Keep w W ∧ pre.length < m
def LstX (w : World) (B1 m c : Nat) (e : Code) (pre : List (Int × Sp)) (W : World) : Prop :=
  ∃ (A : Option Addr) (cc g : Nat), e = .ret ∧ pre.length = m ∧ Boxed W (w.heap.size + 1) 34 (.slice A pre.length cc) ∧ W.ownsRow (w.heap.size + 2) 39 3 (.slice A pre.length cc) pre.length (cls pre) ∧ (Value.slice A pre.length cc).ownBlock = some g ∧ (g = w.heap.size + 2 ∨ B1 + 2 + c ≤ g) ∧ Keep w W

set_option maxRecDepth 100000 in
set_option maxHeartbeats 2000000 in
theorem list_zero (A : Option Addr) (n c : Nat) (m : Int) (hm : m ≤ 0) (w : World) : Calls Tryd.prog 19 #[.slice A n c, .int .i64 m] w (ListPost w []) := by
  refine (callsIn_wide (n := 3)).1 ?_
  refine callsIn_of_wp_marks Tryd.func19 rfl trivial ?_ rfl
  simp only [Tryd.ntmps19, List.size_toArray, List.length_cons, List.length_nil, Nat.reduceAdd, Nat.reduceSub, Array.replicate_succ, Array.replicate_zero, List.push_toArray, List.append_toArray, List.nil_append, List.cons_append]
  gi_wp2_with fail
  have oR := ((World.ownsRow_made (base := w.heap.size) (e := 39) (size := 3) ((w.alloc (.cells #[.int .i64 m] 3)).alloc (.cells #[.slice (some ⟨w.heap.size + 1 + 1, 0, none⟩) 0 0] 34)) #[] 0 (by simp; omega) (by simp) rfl).alloc (.cells #[.slice (some ⟨w.heap.size + 1 + 1, 0, none⟩) 0 0] 34))
  simp only [World.size_alloc] at oR
  exact ⟨.slice (some ⟨w.heap.size + 1 + 1, 0, none⟩) 0 0, by simp [results, Tryd.f19, go_sem], _, _, rfl, oR, ((((Keep.refl w).alloc _).alloc _).alloc _).alloc _⟩

set_option maxRecDepth 100000 in
set_option maxHeartbeats 4000000 in
theorem list_some {w : World} {A : Option Addr} {na ca N : Nat} {f : Nat → Int → Bool} {R : Nat → List Sp} (hA : Area w A na N f) (hR : ∀ i, i < na → IsSet (R i) (fun k => f i k = true)) (hl : na ≤ 1000) (hN : N ≤ 40000) (hc : (cellsL R na).length ≤ 1000000) (m : Nat) (hm : 0 < m) (hm2 : m ≤ 9223372036854775807) :
    Calls Tryd.prog 19 #[.slice A na ca, .int .i64 m] w (ListPost w ((cellsL R na).take m)) := by
  obtain ⟨i0, hi, hz0, hz1, hz2⟩ := info_parts infoCt
  have hd : decide ((m : Int) ≤ 0) = false := decide_eq_false (by omega)
  have HA := Lib.hid hA
  have HR := Lib.hid hR
  clear hA hR
  refine (callsIn_wide (n := 3)).1 ?_
  refine callsIn_of_wp_marks Tryd.func19 rfl trivial ?_ rfl
  simp only [Tryd.ntmps19, List.size_toArray, List.length_cons, List.length_nil, Nat.reduceAdd, Nat.reduceSub, Array.replicate_succ, Array.replicate_zero, List.push_toArray, List.append_toArray, List.nil_append, List.cons_append]
  gi_wp2_with fail
  have bM := (((Boxed.new w 3 (.int .i64 m)).alloc (.cells #[.slice none 0 0] 34)).alloc (.cells #[] 39)).alloc (.cells #[.slice (some ⟨w.heap.size + 1 + 1, 0, none⟩) 0 0] 34)
  have bR := ((Boxed.new (w.alloc (.cells #[.int .i64 m] 3)) 34 (.slice none 0 0)).alloc (.cells #[] 39)).alloc (.cells #[.slice (some ⟨w.heap.size + 1 + 1, 0, none⟩) 0 0] 34)
  have oR := (World.ownsRow_made (base := w.heap.size + 2) (e := 39) (size := 3) ((w.alloc (.cells #[.int .i64 m] 3)).alloc (.cells #[.slice none 0 0] 34)) #[] 0 (by simp) (by simp) rfl).alloc (.cells #[.slice (some ⟨w.heap.size + 1 + 1, 0, none⟩) 0 0] 34)
  have bO := Boxed.new (((w.alloc (.cells #[.int .i64 m] 3)).alloc (.cells #[.slice none 0 0] 34)).alloc (.cells #[] 39)) 34 (.slice (some ⟨w.heap.size + 1 + 1, 0, none⟩) 0 0)
  simp only [World.size_alloc] at bR oR bO
  have hB0 : Keep w ((((w.alloc (.cells #[.int .i64 m] 3)).alloc (.cells #[.slice none 0 0] 34)).alloc (.cells #[] 39)).alloc (.cells #[.slice (some ⟨w.heap.size + 1 + 1, 0, none⟩) 0 0] 34)) := ((((Keep.refl w).alloc _).alloc _).alloc _).alloc _
  have hs0 : ((((w.alloc (.cells #[.int .i64 m] 3)).alloc (.cells #[.slice none 0 0] 34)).alloc (.cells #[] 39)).alloc (.cells #[.slice (some ⟨w.heap.size + 1 + 1, 0, none⟩) 0 0] 34)).heap.size = w.heap.size + 4 := by simp
  generalize (((w.alloc (.cells #[.int .i64 m] 3)).alloc (.cells #[.slice none 0 0] 34)).alloc (.cells #[] 39)).alloc (.cells #[.slice (some ⟨w.heap.size + 1 + 1, 0, none⟩) 0 0] 34) = W0 at *
  refine ⟨trivial, (callsIn_wide.2 (copy_at (ca := ca) (HA.out.keep hB0) hl (by omega))).mono ?_⟩
  rintro e w1 ⟨p1, rfl, hk1, hp1, hs1, hbx, hcp⟩
  rw [hs0] at hp1 hbx hcp
  have hkw := hB0.trans hk1
  have hseq := cells_seq2 (3 - 1) (by omega) (fun k => w.heap.size ≤ k ∧ k ≠ w.heap.size + 4 ∧ k ≠ p1) (A := some ⟨w.heap.size + 4, 0, none⟩) (ca := na) (N := N) (f := f) (R := R) (fun X hX hS => (hcp.stay hX hS (fun h => h.2.1 rfl)).area HA.out.out) HR.out hN (by omega) (Boxed.cell hbx)
  have hstart : ∀ c, LstI w w1.heap.size m c [] w1 := fun c => ⟨some ⟨w.heap.size + 1 + 1, 0, none⟩, 0, w.heap.size + 2, (hk1.block _ (Boxed.lt bO)).trans bO, ownsRow_only oR (Only.of_keep (fun _ => False) hk1) (fun _ _ h => h), rfl, .inl rfl, (hk1.block _ (Boxed.lt bM)).trans bM, (hk1.block _ (Boxed.lt bR)).trans bR, hkw, hm⟩
  have HSEQ := Lib.hid hseq
  have HST := Lib.hid hstart
  have HS1 := Lib.hid (And.intro hs1 hp1)
  have HC := Lib.hid hc
  clear hs1 bM bR oR bO hB0 hs0 hk1 hseq hstart hkw hbx hcp hp1
  gi_wp2_with fail
  refine wpIn_rangeFunc_T stays_sp rfl (by omega) (gf := 67) (lb := #[.pointer (some ⟨p1, 0, none⟩)]) rfl trivial (enters_of Tryd.func67 (by kernel_rfl) rfl) HSEQ.out
    (fun c => by have := HS1.out; refine ⟨⟨?_, ?_, ?_⟩, ?_, ?_, ?_⟩ <;> omega) (Keep.refl w1) (fun _ => rfl)
    (LstI w w1.heap.size m) (LstX w w1.heap.size m) ?sI ?sX HST.out
    (fun c pre x a' W => ∃ pb, w1.heap.size + 2 + c ≤ pb ∧ W.heap[pb]? = some (.cells #[.int .u32 x.2.lo, .int .u32 x.2.hi] 37 (0, 0)) ∧ a' = { tmps := #[.slice A na ca, .int .i64 m, undef, .pointer (some ⟨w.heap.size, 0, none⟩), .pointer (some ⟨w.heap.size + 1, 0, none⟩), .pointer (some ⟨w.heap.size + 1 + 1 + 1, 0, none⟩), .int .i64 x.1, .pointer (some ⟨pb, 0, none⟩), .slice (some ⟨w.heap.size + 1 + 1, 0, none⟩) 0 0, .int .i64 m, .bool false, undef, .slice A na ca, .func (.func 67) #[] #[.pointer (some ⟨p1, 0, none⟩)], .int .i64 x.1, .agg #[.int .u32 x.2.lo, .int .u32 x.2.hi], undef, undef, undef, undef, undef, undef, undef, undef, undef, undef, undef, undef], defers := [] }) ?sA ?assign ?body ?done ?stop
  case sI =>
    rintro c pre X Y ⟨A1, cc, g, q1, q2, q3, q4, q5, q6, q7, q8⟩ ho
    have h1 := HS1.out
    exact ⟨A1, cc, g, Boxed.only q1 ho (by omega), ownsRow_only q2 ho (fun g' e => by rw [q3] at e; cases e; omega), q3, q4, Boxed.only q5 ho (by omega), Boxed.only q6 ho (by omega), Only.keep q7 ho (fun k hk => by omega), q8⟩
  case sX =>
    rintro c e pre X Y ⟨A1, cc, g, q0, q1, q2, q3, q4, q5, q6⟩ ho
    have h1 := HS1.out
    exact ⟨A1, cc, g, q0, q1, Boxed.only q2 ho (by omega), ownsRow_only q3 ho (fun g' e => by rw [q4] at e; cases e; omega), q4, q5, Only.keep q6 ho (fun k hk => by omega)⟩
  case sA =>
    rintro c pre x a' _ X Y ⟨pb, h1, h2, h3⟩ ho
    exact ⟨pb, h1, (ho.block _ (Array.getElem?_eq_some_iff.1 h2).1 (by omega)).trans h2, h3⟩
  case assign =>
    rintro l c pre x W K2 hi hadm hsz hK2
    have h1 := HS1.out
    have hi2 : LstI w w1.heap.size m c pre (W.alloc (.cells #[.int .u32 x.2.lo, .int .u32 x.2.hi] 37)) := by
      obtain ⟨A1, cc, g, q1, q2, q3, q4, q5, q6, q7, q8⟩ := hi
      have ho : Only (fun _ => False) W (W.alloc (.cells #[.int .u32 x.2.lo, .int .u32 x.2.hi] 37)) := (Only.refl _ W).alloc _
      exact ⟨A1, cc, g, Boxed.only q1 ho (fun h => h), ownsRow_only q2 ho (fun _ _ h => h), q3, q4, Boxed.only q5 ho (fun h => h), Boxed.only q6 ho (fun h => h), q7.alloc _, q8⟩
    have HI2 := Lib.hid hi2
    have HKK := Lib.hid hK2
    clear hi2 hK2 hi HSEQ HST
    dsimp only [encC]
    gi_wp2
    exact HKK.out _ _ ((Only.refl _ W).alloc _) (spStay_of_keep ((Keep.refl W).alloc _)) HI2.out ⟨W.heap.size, hsz, World.alloc_heap_new _ _, rfl⟩
  case body =>
    rintro l c pre x a' W ⟨A1, cc, g, q1, q2, q3, q4, q5, q6, q7, q8⟩ ⟨pb, hpb, hbb, rfl⟩ hsz hlen
    have h1 := HS1.out
    have h2 := HC.out
    have hc := q1.cell
    have hx0 : W.cell? ⟨pb, 0, none⟩ = some (.int .u32 x.2.lo) := by simp [World.cell?, hbb]
    have hx1 : W.cell? ⟨pb, 1, none⟩ = some (.int .u32 x.2.hi) := by simp [World.cell?, hbb]
    have hml : pre.length + 1 ≤ maxLen := by unfold maxLen; omega
    have hg2 : g < W.heap.size := (q2.lt g q3).2
    obtain ⟨cur, hcur⟩ := own_heap3 q2 q3
    have HCUR := Lib.hid hcur
    have HQ1 := Lib.hid q1
    have HQ2 := Lib.hid q2
    have HQ3 := Lib.hid q3
    have HQ5 := Lib.hid q5
    have HQ6 := Lib.hid q6
    have HQ7 := Lib.hid q7
    have hl1 : (pre ++ [x]).length = pre.length + 1 := by simp
    have HL1 := Lib.hid hl1
    have hw3 : w.heap.size + 3 < W.heap.size := by omega
    have hone : ∀ u ∈ clc x, u.oneCell' = true := by
      intro u hu
      simp [clc] at hu
      rcases hu with rfl | rfl | rfl <;> rfl
    have hby : (pre.length + 1) * 16 ≤ 140737488355328 := by omega
    have hbs : w.heap.size + 2 ≤ (W.alloc (.cells #[.int .i64 x.1, .int .u32 x.2.lo, .int .u32 x.2.hi] 39)).heap.size := by simp; omega
    have hnews := clc_news W x
    have HONE := Lib.hid hone
    have HBY := Lib.hid hby
    have HBS := Lib.hid hbs
    have HNEWS := Lib.hid hnews
    have HOG : Hid (∀ (A6 : Option Addr) (c6 : Nat) (w6 : World), (W.alloc (.cells #[.int .i64 x.1, .int .u32 x.2.lo, .int .u32 x.2.hi] 39)).grownBy w6 (Value.slice A1 pre.length cc).ownBlock → Only (fun k => k = g) W w6) := Lib.hid (fun A6 c6 w6 hg6 => ((Only.refl (fun k => k = g) W).alloc _).grown hg6 (fun k _ e => by rw [HQ3.out] at e; exact (Option.some.inj e).symm))
    have HSP : Hid (∀ X, Only (fun k => k = g ∨ k = w.heap.size + 3 ∨ k = w.heap.size + 1) W X → SpStay W X) := Lib.hid (fun X hX => spStay_of_only hX (fun k cur2 z hk e => by
      rcases hk with hk | hk | hk
      · rw [hk, HCUR.out] at e; cases e
      · have := HQ1.out; unfold Boxed at this; rw [hk, this] at e; cases e
      · have := HQ6.out; unfold Boxed at this; rw [hk, this] at e; cases e))
    clear hone hby hbs hnews
    clear q1 q2 q3 q5 q6 q7 HSEQ HST hl1 hcur hbb h2
    by_cases hfull : pre.length + 1 = m
    · have htest : (((pre.length : Int) + 1) == (m : Int)) = true := by rw [beq_iff_eq]; omega
      have HF := Lib.hid hfull
      clear hfull
      gi_wp2_with (gi_at_builtin; refine wpListIn_append_sz rfl _ _ 34 rfl (w.heap.size + 2) 39 i0 (.agg #[.int .i64 0, .int .u32 0, .int .u32 0]) 3 16 Tryd.underlying34 hi hz0 hz1 hz2 rfl (by decide) _ pre.length (cls pre) rfl (HQ2.out.alloc _) ⟨W.heap.size, 0, none⟩ 1 1 (clc x) rfl rfl HNEWS.out HONE.out hml HBY.out HBS.out ?_; intro A6 c6 w6 hown6 hgrow6 hbl6; have hO6 := HOG.out A6 c6 w6 hgrow6; have b1 := Boxed.only HQ1.out hO6 (by omega); have b5 := Boxed.only HQ5.out hO6 (by omega); have b6 := Boxed.only HQ6.out hO6 (by omega); have hc1 := b1.cell; have hf1 := b1.frozen; have hc5 := b5.cell; have hc6 := b6.cell; have hf6 := b6.frozen; have HO6 := Lib.hid hO6; have HW6 := Lib.hid hown6; have HBL := Lib.hid hbl6; have B6 := Lib.hid b6; have B1 := Lib.hid b1; have B5 := Lib.hid b5; clear hO6 hown6 hgrow6 hbl6 b1 b5 b6)
      obtain ⟨g6, hg6, hg6c⟩ : ∃ g6, (Value.slice A6 (pre.length + 1) c6).ownBlock = some g6 ∧ (g6 = w.heap.size + 2 ∨ w1.heap.size + 2 + c ≤ g6) := by
        rcases HBL.out with e | e
        · exact ⟨g, e.trans HQ3.out, q4⟩
        · exact ⟨W.heap.size + 1, by simpa using e, .inr (by omega)⟩
      have hOa : Only (fun k => k = g ∨ k = w.heap.size + 3 ∨ k = w.heap.size + 1) W ((w6.setCell ⟨w.heap.size + 1 + 1 + 1, 0, none⟩ (.slice A6 (pre.length + 1) c6)).setCell ⟨w.heap.size + 1, 0, none⟩ (.slice A6 (pre.length + 1) c6)) := ((HO6.out.mono (fun _ _ h => .inl h)).setCell _ _ (.inr (.inl rfl))).setCell _ _ (.inr (.inr rfl))
      have hOb : Only (fun k => k = w.heap.size + 3 ∨ k = w.heap.size + 1) w6 ((w6.setCell ⟨w.heap.size + 1 + 1 + 1, 0, none⟩ (.slice A6 (pre.length + 1) c6)).setCell ⟨w.heap.size + 1, 0, none⟩ (.slice A6 (pre.length + 1) c6)) := ((Only.refl _ w6).setCell _ _ (.inl rfl)).setCell _ _ (.inr rfl)
      refine ⟨hOa.mono (fun k _ h => by omega), A6, c6, g6, rfl, by rw [HL1.out]; exact HF.out, ?_, ?_, by rw [HL1.out]; exact hg6, hg6c, Only.keep HQ7.out hOa (fun k h => by omega)⟩
      · rw [HL1.out]
        exact (B6.out.other (B' := w.heap.size + 1 + 1 + 1) (by omega) _).set _
      · rw [HL1.out, cls_append, show cls [x] = clc x from by simp [cls]]
        exact ownsRow_only HW6.out hOb (fun g' e => by rw [hg6] at e; cases e; omega)
    · have htest : (((pre.length : Int) + 1) == (m : Int)) = false := by rw [beq_eq_false_iff_ne]; omega
      have HNF := Lib.hid (show pre.length + 1 < m by omega)
      clear hfull
      gi_wp2_with (gi_at_builtin; refine wpListIn_append_sz rfl _ _ 34 rfl (w.heap.size + 2) 39 i0 (.agg #[.int .i64 0, .int .u32 0, .int .u32 0]) 3 16 Tryd.underlying34 hi hz0 hz1 hz2 rfl (by decide) _ pre.length (cls pre) rfl (HQ2.out.alloc _) ⟨W.heap.size, 0, none⟩ 1 1 (clc x) rfl rfl HNEWS.out HONE.out hml HBY.out HBS.out ?_; intro A6 c6 w6 hown6 hgrow6 hbl6; have hO6 := HOG.out A6 c6 w6 hgrow6; have b1 := Boxed.only HQ1.out hO6 (by omega); have b5 := Boxed.only HQ5.out hO6 (by omega); have b6 := Boxed.only HQ6.out hO6 (by omega); have hc1 := b1.cell; have hf1 := b1.frozen; have hc5 := b5.cell; have hc6 := b6.cell; have hf6 := b6.frozen; have HO6 := Lib.hid hO6; have HW6 := Lib.hid hown6; have HBL := Lib.hid hbl6; have B6 := Lib.hid b6; have B1 := Lib.hid b1; have B5 := Lib.hid b5; clear hO6 hown6 hgrow6 hbl6 b1 b5 b6)
      obtain ⟨g6, hg6, hg6c⟩ : ∃ g6, (Value.slice A6 (pre.length + 1) c6).ownBlock = some g6 ∧ (g6 = w.heap.size + 2 ∨ w1.heap.size + 2 + c ≤ g6) := by
        rcases HBL.out with e | e
        · exact ⟨g, e.trans HQ3.out, q4⟩
        · exact ⟨W.heap.size + 1, by simpa using e, .inr (by omega)⟩
      have hOa : Only (fun k => k = g ∨ k = w.heap.size + 3) W (w6.setCell ⟨w.heap.size + 1 + 1 + 1, 0, none⟩ (.slice A6 (pre.length + 1) c6)) := (HO6.out.mono (fun _ _ h => .inl h)).setCell _ _ (.inr rfl)
      have hOb : Only (fun k => k = w.heap.size + 3) w6 (w6.setCell ⟨w.heap.size + 1 + 1 + 1, 0, none⟩ (.slice A6 (pre.length + 1) c6)) := (Only.refl (fun k => k = w.heap.size + 3) w6).setCell _ _ rfl
      refine ⟨hOa.mono (fun k _ h => by refine ⟨⟨?_, ?_, ?_⟩, ?_, ?_⟩ <;> omega), HSP.out _ (hOa.mono (fun k _ h => by omega)), A6, c6, g6, ?_, ?_, by rw [HL1.out]; exact hg6, hg6c, Boxed.only B5.out hOb (by omega), Boxed.only B6.out hOb (by omega), Only.keep HQ7.out hOa (fun k h => by omega), by rw [HL1.out]; exact HNF.out⟩
      · rw [HL1.out]
        exact B1.out.set _
      · rw [HL1.out, cls_append, show cls [x] = clc x from by simp [cls]]
        exact ownsRow_only HW6.out hOb (fun g' e => by rw [hg6] at e; cases e; omega)
  case done =>
    rintro D c ys W hD hys ⟨A1, cc, g, q1, q2, q3, q4, q5, q6, q7, q8⟩ hdef
    have h1 := HS1.out
    subst hys
    have HTK := Lib.hid (show (cellsL R na).take m = cellsL R na from List.take_of_length_le (by omega))
    have hc := q1.cell
    have hc6 := q6.cell
    have hf6 := q6.frozen
    have HQ2 := Lib.hid q2
    have HQ3 := Lib.hid q3
    have HQ6 := Lib.hid q6
    have HQ7 := Lib.hid q7
    clear q1 q2 q3 q5 q6 q7 HSEQ HST
    gi_wp2
    have hO : Only (fun k => k = w.heap.size + 1 ∨ k = D) W ((W.setCell ⟨w.heap.size + 1, 0, none⟩ (.slice A1 (cellsL R na).length cc)).putObj D (.deferred none)) := ((Only.refl _ W).setCell _ _ (.inl rfl)).putObj _ _ (.inr rfl)
    have hK' : (W.setCell ⟨w.heap.size + 1, 0, none⟩ (.slice A1 (cellsL R na).length cc)).heap[D]? = some (.deferred (some [])) := (((Only.refl (fun k => k = w.heap.size + 1) W).setCell ⟨w.heap.size + 1, 0, none⟩ (.slice A1 (cellsL R na).length cc) rfl).block D (Array.getElem?_eq_some_iff.1 hdef).1 (by omega)).trans hdef
    have hb5 : Boxed ((W.setCell ⟨w.heap.size + 1, 0, none⟩ (.slice A1 (cellsL R na).length cc)).putObj D (.deferred none)) (w.heap.size + 1) 34 (.slice A1 (cellsL R na).length cc) := (World.putObj_heap_other (by omega)).trans (HQ6.out.set (.slice A1 (cellsL R na).length cc))
    have hc5 := hb5.cell
    have hown := ownsRow_putObj (ownsRow_only HQ2.out ((Only.refl (fun k => k = w.heap.size + 1) W).setCell ⟨w.heap.size + 1, 0, none⟩ (.slice A1 (cellsL R na).length cc) rfl) (fun g' e => by rw [HQ3.out] at e; cases e; omega)) (.deferred none) hK' rfl
    have hkf := Only.keep HQ7.out hO (fun k h => by omega)
    refine ⟨by simp, .inl ⟨_, _, rfl, run_takeDeferred hK', ?_⟩⟩
    refine ⟨.slice A1 (cellsL R na).length cc, by simp [results, Tryd.f19, go_sem, hc5], ?_⟩
    rw [HTK.out]
    exact ⟨A1, cc, rfl, ownsRow_le hown (by omega), hkf⟩
  case stop =>
    rintro D c e pre W hD hS ⟨A1, cc, g, rfl, q1, q2, q3, q4, q5, q6⟩ hdef
    have h1 := HS1.out
    have HTK := Lib.hid (show (cellsL R na).take m = pre from by rw [← q1]; exact (List.prefix_iff_eq_take.1 hS).symm)
    have hc := q2.cell
    have HQ3 := Lib.hid q3
    have HQ4 := Lib.hid q4
    have HQ6 := Lib.hid q6
    have HQ2 := Lib.hid q2
    clear q2 q3 q4 q6 HSEQ HST
    gi_wp2
    have hO : Only (fun k => k = D) W (W.putObj D (.deferred none)) := (Only.refl _ W).putObj _ _ rfl
    have hb5 : Boxed (W.putObj D (.deferred none)) (w.heap.size + 1) 34 (.slice A1 pre.length cc) := (World.putObj_heap_other (by omega)).trans HQ2.out
    have hc5 := hb5.cell
    have hown := ownsRow_putObj HQ3.out (.deferred none) hdef rfl
    have hkf := Only.keep HQ6.out hO (fun k h => by omega)
    refine ⟨by simp, .inl ⟨_, _, rfl, run_takeDeferred hdef, ?_⟩⟩
    refine ⟨.slice A1 pre.length cc, by simp [results, Tryd.f19, go_sem, hc5], ?_⟩
    rw [HTK.out]
    exact ⟨A1, cc, rfl, ownsRow_le hown (by omega), hkf⟩
end Go.Proofs.YtmdhbbibghpijaaDoor
