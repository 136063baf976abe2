/- The law's own pairs: as many keys and values as are asked for, and are there, rising. -/
import Derived.Test.YtopengbflnoneaaSegAll
namespace Go.Proofs.Ytopengbflnoneaa
open Go.RowKit Go.Shelf
attribute [local go_sem] Oper.semAt_some

/-- A pair's two cells. -/
def prc (p : Int × Int) : List Value := [.int .u32 p.1, .int .i64 p.2]
def prs (ps : List (Int × Int)) : List Value := ps.flatMap prc
theorem prs_append (xs ys : List (Int × Int)) : prs (xs ++ ys) = prs xs ++ prs ys := by simp [prs]
theorem prs_length : ∀ ps : List (Int × Int), (prs ps).length = ps.length * 2
  | [] => rfl
  | p :: ps => by
    have := prs_length ps
    simp only [prs, List.flatMap_cons, List.length_append, List.length_cons] at this ⊢
    rw [this]
    simp [prc]
    omega
theorem prs_one (ps : List (Int × Int)) : ∀ u ∈ prs ps, u.oneCell' = true := by
  intro u hu
  obtain ⟨p, _, hp⟩ := List.mem_flatMap.1 hu
  simp [prc] at hp
  rcases hp with rfl | rfl <;> rfl
theorem prs_get : ∀ (ps : List (Int × Int)) (j : Nat) (p : Int × Int), ps[j]? = some p → (prs ps)[j * 2]? = some (.int .u32 p.1) ∧ (prs ps)[j * 2 + 1]? = some (.int .i64 p.2)
  | [], j, p, h => by cases h
  | y :: ps, 0, p, h => by
    obtain rfl : y = p := by simpa using h
    simp [prs, prc]
  | y :: ps, j + 1, p, h => by
    obtain ⟨h1, h2⟩ := prs_get ps j p (by simpa using h)
    have e : prs (y :: ps) = prc y ++ prs ps := by simp [prs]
    have el : (prc y).length = 2 := rfl
    refine ⟨?_, ?_⟩
    · rw [e, List.getElem?_append_right (by omega), el, show (j + 1) * 2 - 2 = j * 2 from by omega, h1]
    · rw [e, List.getElem?_append_right (by omega), el, show (j + 1) * 2 + 1 - 2 = j * 2 + 1 from by omega, h2]
theorem infoPr : (Try.prog.info? 61).map (fun i => (i.zero, i.size, i.bytes)) = some (some (.agg #[.int .u32 0, .int .i64 0]), 2, 16) := by kernel_rfl
theorem pair_news (w : World) (p : Int × Int) : ∀ j u, (prc p)[j]? = some u → (w.alloc (.cells #[.int .u32 p.1, .int .i64 p.2] 61)).cell? ((⟨w.heap.size, 0, none⟩ : Addr).add j) = some u := by
  intro j u hu
  have h := World.alloc_heap_new w (.cells #[.int .u32 p.1, .int .i64 p.2] 61)
  rw [addr_add, Nat.zero_add]
  generalize w.alloc (.cells #[.int .u32 p.1, .int .i64 p.2] 61) = V at h ⊢
  rcases j with _ | _ | j
  · simpa [World.cell?, h, prc] using hu
  · simpa [World.cell?, h, prc] using hu
  · simp [prc] at hu
section
variable {F : Fence} {n : Nat} {P : Program} {w : World}
/-- append onto a row of the call's own, inside a fence, with the block that it lies in then. -/
theorem wpListIn_append_sz {ops : Array Oper} {rest : List Oper} {o : Oper} {a : Act} {Q : Exit → Act → World → Prop} (hgd : o.guard = none) (s x : Operand) (t : TypeId)
    (ho : o.op = .call { callee := .builtin .append, args := #[s, x], argTypes := #[t, t] })
    (base : Nat) (e : TypeId) (i : TypeInfo) (z : Value) (size bytes : Nat) (ht : P.underlying t = some (.slice e)) (hi : P.info? e = some i) (hz : i.zero = some z)
    (hsize : i.size = size) (hby : i.bytes = bytes) (hzs : z.cells.size = size) (hsz : 0 < size)
    (v : Value) (m0 : Nat) (xs : List Value) (hs : a.eval s = v) (hown : w.ownsRow base e size v m0 xs)
    (ad : Addr) (m c : Nat) (news : List Value) (hx : a.eval x = .slice (some ad) m c) (hl : news.length = m * size) (hnews : ∀ j u, news[j]? = some u → w.cell? (ad.add j) = some u) (h1 : ∀ u ∈ news, u.oneCell' = true)
    (h63 : m0 + m ≤ maxLen) (hbytes : (m0 + m) * bytes ≤ 140737488355328) (hbase : base ≤ w.heap.size)
    (h : ∀ A' c' w', w'.ownsRow base e size (.slice A' (m0 + m) c') (m0 + m) (xs ++ news) → w.grownBy w' v.ownBlock → ((Value.slice A' (m0 + m) c').ownBlock = v.ownBlock ∨ (Value.slice A' (m0 + m) c').ownBlock = some w.heap.size) → wpListIn F n P ops Q rest (a.put o.dst (.slice A' (m0 + m) c')) w') :
    wpListIn F n P ops Q (o :: rest) a w := by
  refine wpListIn_plain hgd fun K hK => ?_
  obtain ⟨v', w', hr, h2, h3, _, h5⟩ := run_append_own_at (P := P) w base t o.type e i z size bytes ht hi hz hsize hby hzs hsz v m0 xs hown ad m c news hl hnews h1 h63 hbytes hbase
  obtain ⟨A', c', rfl⟩ : ∃ A' c', v' = .slice A' (m0 + m) c' := by
    rcases h2.2 with ⟨rfl, h0⟩ | ⟨g, cap, cur, rfl, _⟩
    · exact ⟨none, 0, by rw [h0]⟩
    · exact ⟨_, _, rfl⟩
  unfold Oper.wpIn
  refine ⟨?_, ?_⟩
  · simp [Oper.about, ho, resolve, Target.leads, Sem.run_pure]
  · rw [Oper.semAt_plain F _ _ (by rw [ho]; intro c hc'; cases hc')]
    simp [execOp, ho, resolve, invoke, builtin, hs, hx, hr, Result.andThen]
    exact hK _ _ (h A' c' w' h2 h3 h5)
end
/-- What pairs answers: a row of its own. -/
def PairsPost (w : World) (ys : List (Int × Int)) (e : Ending) (w' : World) : Prop :=
  ∃ (A : Option Addr) (c : Nat), e = .returned (.slice A ys.length c) ∧ w'.ownsRow w.heap.size 61 2 (.slice A ys.length c) ys.length (prs ys) ∧ Keep w w'
/-- Between two rounds. -/
def PairsI (w : World) (m c : Nat) (pre : List (Int × Int)) (W : World) : Prop :=
  ∃ (A : Option Addr) (cc g : Nat), Boxed W (w.heap.size + 3) 28 (.slice A pre.length cc) ∧ W.ownsRow (w.heap.size + 2) 61 2 (.slice A pre.length cc) pre.length (prs pre) ∧ (Value.slice A pre.length cc).ownBlock = some g ∧ (g = w.heap.size + 2 ∨ w.heap.size + 7 + c ≤ g) ∧
    Boxed W w.heap.size 3 (.int .i64 m) ∧ Boxed W (w.heap.size + 1) 28 (.slice none 0 0) ∧ Keep w W ∧ pre.length < m
def PairsX (w : World) (m c : Nat) (e : Code) (pre : List (Int × Int)) (W : World) : Prop :=
  ∃ (A : Option Addr) (cc g : Nat), e = .ret ∧ pre.length = m ∧ Boxed W (w.heap.size + 1) 28 (.slice A pre.length cc) ∧ W.ownsRow (w.heap.size + 2) 61 2 (.slice A pre.length cc) pre.length (prs pre) ∧ (Value.slice A pre.length cc).ownBlock = some g ∧ (g = w.heap.size + 2 ∨ w.heap.size + 7 + c ≤ g) ∧ Keep w W
set_option maxRecDepth 100000 in
set_option maxHeartbeats 4000000 in
theorem pairs_some {w0 w : World} {b lim n : Nat} {t : Sh} {kvs : List (Int × Int)} {Pr : Nat → Prop} (hT : Tre w0 b lim n t kvs Pr w) (hl : kvs.length ≤ 1000000) (m : Nat) (hm : 0 < m) (hm2 : m ≤ 9223372036854775807) :
    Calls Try.prog 23 #[.pointer (some ⟨b, 0, none⟩), .int .i64 m] w (PairsPost w (kvs.take m)) := by
  obtain ⟨i0, hi, hz0, hz1, hz2⟩ := info_parts infoPr
  have hd : decide ((m : Int) ≤ 0) = false := decide_eq_false (by omega)
  have HT := Lib.hid hT
  clear hT
  refine (callsIn_wide (n := 3)).1 ?_
  refine callsIn_of_wp_marks Try.func23 rfl trivial ?_ rfl
  simp only [Try.ntmps23, List.size_toArray, List.length_cons, List.length_nil, Nat.reduceAdd, Nat.reduceSub, Array.replicate_succ, Array.replicate_zero, List.push_toArray, List.append_toArray, List.nil_append, List.cons_append]
  gi_wp2_with fail
  have bM := (((Boxed.new w 3 (.int .i64 m)).alloc (.cells #[.slice none 0 0] 28)).alloc (.cells #[] 61)).alloc (.cells #[.slice (some ⟨w.heap.size + 1 + 1, 0, none⟩) 0 0] 28)
  have bR := ((Boxed.new (w.alloc (.cells #[.int .i64 m] 3)) 28 (.slice none 0 0)).alloc (.cells #[] 61)).alloc (.cells #[.slice (some ⟨w.heap.size + 1 + 1, 0, none⟩) 0 0] 28)
  have oR := (World.ownsRow_made (base := w.heap.size + 2) (e := 61) (size := 2) ((w.alloc (.cells #[.int .i64 m] 3)).alloc (.cells #[.slice none 0 0] 28)) #[] 0 (by simp) (by simp) rfl).alloc (.cells #[.slice (some ⟨w.heap.size + 1 + 1, 0, none⟩) 0 0] 28)
  have bO := Boxed.new (((w.alloc (.cells #[.int .i64 m] 3)).alloc (.cells #[.slice none 0 0] 28)).alloc (.cells #[] 61)) 28 (.slice (some ⟨w.heap.size + 1 + 1, 0, none⟩) 0 0)
  simp only [World.size_alloc] at bR oR bO
  have hB0 : Keep w ((((w.alloc (.cells #[.int .i64 m] 3)).alloc (.cells #[.slice none 0 0] 28)).alloc (.cells #[] 61)).alloc (.cells #[.slice (some ⟨w.heap.size + 1 + 1, 0, none⟩) 0 0] 28)) := ((((Keep.refl w).alloc _).alloc _).alloc _).alloc _
  have hs0 : ((((w.alloc (.cells #[.int .i64 m] 3)).alloc (.cells #[.slice none 0 0] 28)).alloc (.cells #[] 61)).alloc (.cells #[.slice (some ⟨w.heap.size + 1 + 1, 0, none⟩) 0 0] 28)).heap.size = w.heap.size + 4 := by simp
  generalize (((w.alloc (.cells #[.int .i64 m] 3)).alloc (.cells #[.slice none 0 0] 28)).alloc (.cells #[] 61)).alloc (.cells #[.slice (some ⟨w.heap.size + 1 + 1, 0, none⟩) 0 0] 28) = W0 at *
  refine ⟨trivial, (tall_in _ b W0).mono ?_⟩
  rintro e w1 ⟨rfl, hw1⟩
  have hk1 : Keep W0 w1 := by rw [hw1]; exact (Keep.refl W0).alloc _
  have hs1 : w1.heap.size = w.heap.size + 5 := by rw [hw1]; simp [hs0]
  have ct : w1.cell? ⟨w.heap.size + 4, 0, none⟩ = some (.pointer (some ⟨b, 0, none⟩)) := by rw [hw1, ← hs0]; exact (Boxed.new W0 24 (.pointer (some ⟨b, 0, none⟩))).cell
  have hkw := hB0.trans hk1
  have hseq := tall_seq (3 - 1) (by omega) HT.out hkw hl ct
  have hstart : ∀ c, PairsI w m c [] w1 := fun c => ⟨some ⟨w.heap.size + 1 + 1, 0, none⟩, 0, w.heap.size + 2, (hk1.block _ (by omega)).trans bO, ownsRow_only oR (Only.of_keep (fun _ => False) hk1) (fun _ _ h => h), rfl, .inl rfl, (hk1.block _ (by omega)).trans bM, (hk1.block _ (by omega)).trans bR, hkw, by simpa using hm⟩
  rw [hs0]
  have HSEQ := Lib.hid hseq
  have HST := Lib.hid hstart
  have HS1 := Lib.hid hs1
  clear ct hw1 bM bR oR bO hB0 hs0 hk1 hseq hstart hkw HT
  gi_wp2
  refine wpIn_rangeFunc_X rfl (by omega) (gf := 61) (lb := #[.pointer (some ⟨w.heap.size + 4, 0, none⟩)]) rfl trivial (enters_of Try.func61 (by kernel_rfl) rfl) HSEQ.out
    (fun c => ⟨⟨by omega, by omega, by omega⟩, by omega, by omega, by omega⟩) (Keep.refl w1) (fun _ => rfl)
    (fun c => PairsI w m c) (fun c => PairsX w m c) ?sI ?sX HST.out
    (fun _ pre x a' W => a' = { tmps := #[.pointer (some ⟨b, 0, none⟩), .int .i64 m, undef, .pointer (some ⟨w.heap.size, 0, none⟩), .pointer (some ⟨w.heap.size + 1, 0, none⟩), .pointer (some ⟨w.heap.size + 1 + 1 + 1, 0, none⟩), .int .u32 x.1, .int .i64 x.2, .slice (some ⟨w.heap.size + 1 + 1, 0, none⟩) 0 0, .int .i64 m, .bool false, undef, .pointer (some ⟨b, 0, none⟩), .func (.func 61) #[] #[.pointer (some ⟨w.heap.size + 4, 0, none⟩)], .int .u32 x.1, .int .i64 x.2, undef, undef, undef, undef, undef, undef, undef, undef, undef, undef, undef, undef], defers := [] }) (fun _ _ _ _ _ _ _ h _ => h) ?assign ?body ?done ?stop
  case sI =>
    rintro c pre X Y ⟨A, cc, g, q1, q2, q3, q4, q5, q6, q7, q8⟩ ho
    have h1 := HS1.out
    refine ⟨A, cc, g, Boxed.only q1 ho (by omega), ownsRow_only q2 ho (fun g' e => by rw [q3] at e; cases e; omega), q3, q4, Boxed.only q5 ho (by omega), Boxed.only q6 ho (by omega), Only.keep q7 ho (fun k hk => by omega), q8⟩
  case sX =>
    rintro c e pre X Y ⟨A, cc, g, q0, q1, q2, q3, q4, q5, q6⟩ ho
    have h1 := HS1.out
    exact ⟨A, cc, g, q0, q1, Boxed.only q2 ho (by omega), ownsRow_only q3 ho (fun g' e => by rw [q4] at e; cases e; omega), q4, q5, Only.keep q6 ho (fun k hk => by omega)⟩
  case assign =>
    rintro l c pre x W K hi - hsz hK
    gi_wp2
    exact hK _ _ (Only.refl _ W) hi (by simp)
  case body =>
    rintro l c pre x a' W ⟨A, cc, g, q1, q2, q3, q4, q5, q6, q7, q8⟩ rfl hsz hlen
    have h1 := HS1.out
    have hc := q1.cell
    have hml : pre.length + 1 ≤ maxLen := by unfold maxLen; omega
    have hg2 : g < W.heap.size := (q2.lt g q3).2
    have HQ1 := Lib.hid q1
    have HQ2 := Lib.hid q2
    have HQ3 := Lib.hid q3
    have HQ5 := Lib.hid q5
    have HQ6 := Lib.hid q6
    have HQ7 := Lib.hid q7
    have hl1 : (pre ++ [x]).length = pre.length + 1 := by simp
    have HL1 := Lib.hid hl1
    have hw3 : w.heap.size + 3 < W.heap.size := by omega
    have hone : ∀ u ∈ prc x, u.oneCell' = true := by
      intro u hu
      simp [prc] at hu
      rcases hu with rfl | rfl <;> rfl
    have hby : (pre.length + 1) * 16 ≤ 140737488355328 := by omega
    have hbs : w.heap.size + 2 ≤ (W.alloc (.cells #[.int .u32 x.1, .int .i64 x.2] 61)).heap.size := by simp; omega
    have hnews := pair_news W x
    have HONE := Lib.hid hone
    have HBY := Lib.hid hby
    have HBS := Lib.hid hbs
    have HNEWS := Lib.hid hnews
    have HOG : Hid (∀ (A6 : Option Addr) (c6 : Nat) (w6 : World), (W.alloc (.cells #[.int .u32 x.1, .int .i64 x.2] 61)).grownBy w6 (Value.slice A pre.length cc).ownBlock → Only (fun k => k = g) W w6) := Lib.hid (fun A6 c6 w6 hg6 => ((Only.refl (fun k => k = g) W).alloc _).grown hg6 (fun k _ e => by rw [HQ3.out] at e; exact (Option.some.inj e).symm))
    clear hone hby hbs hnews
    clear q1 q2 q3 q5 q6 q7 HSEQ HST hl1
    by_cases hfull : pre.length + 1 = m
    · have htest : (((pre.length : Int) + 1) == (m : Int)) = true := by rw [beq_iff_eq]; omega
      have HF := Lib.hid hfull
      clear hfull
      gi_wp2_with (gi_at_builtin; (first | (refine wpListIn_append_sz rfl _ _ 28 rfl (w.heap.size + 2) 61 i0 (.agg #[.int .u32 0, .int .i64 0]) 2 16 Try.underlying28 hi hz0 hz1 hz2 rfl (by decide) _ pre.length (prs pre) rfl (HQ2.out.alloc _) ⟨W.heap.size, 0, none⟩ 1 1 (prc x) rfl rfl HNEWS.out HONE.out hml HBY.out HBS.out ?_) | (trace "THE REFINE FAILS"; fail)); intro A6 c6 w6 hown6 hgrow6 hbl6; (first | have hO6 := HOG.out A6 c6 w6 hgrow6 | (trace "HOG FAILS"; fail)); (first | have b1 := Boxed.only HQ1.out hO6 (by omega) | (trace "B1 FAILS"; fail)); (first | have b5 := Boxed.only HQ5.out hO6 (by omega) | (trace "B5 FAILS"; fail)); (first | have b6 := Boxed.only HQ6.out hO6 (by omega) | (trace "B6 FAILS"; fail)); (first | (have hc1 := b1.cell; have hf1 := b1.frozen; have hc5 := b5.cell; have hc6 := b6.cell; have hf6 := b6.frozen) | (trace "C FAILS"; fail)); (first | (have HO6 := Lib.hid hO6; have HW6 := Lib.hid hown6; have HBL := Lib.hid hbl6; have B6 := Lib.hid b6; clear hO6 hown6 hgrow6 hbl6 b1 b5 b6) | (trace "D FAILS"; fail)))
      obtain ⟨g6, hg6, hg6c⟩ : ∃ g6, (Value.slice A6 (pre.length + 1) c6).ownBlock = some g6 ∧ (g6 = w.heap.size + 2 ∨ w.heap.size + 7 + c ≤ g6) := by
        rcases HBL.out with e | e
        · exact ⟨g, e.trans HQ3.out, q4⟩
        · exact ⟨W.heap.size + 1, by simpa using e, .inr (by omega)⟩
      have hOa : Only (fun k => k = g ∨ k = w.heap.size + 3 ∨ k = w.heap.size + 1) W ((w6.setCell ⟨w.heap.size + 1 + 1 + 1, 0, none⟩ (.slice A6 (pre.length + 1) c6)).setCell ⟨w.heap.size + 1, 0, none⟩ (.slice A6 (pre.length + 1) c6)) := ((HO6.out.mono (fun _ _ h => .inl h)).setCell _ _ (.inr (.inl rfl))).setCell _ _ (.inr (.inr rfl))
      have hOb : Only (fun k => k = w.heap.size + 3 ∨ k = w.heap.size + 1) w6 ((w6.setCell ⟨w.heap.size + 1 + 1 + 1, 0, none⟩ (.slice A6 (pre.length + 1) c6)).setCell ⟨w.heap.size + 1, 0, none⟩ (.slice A6 (pre.length + 1) c6)) := ((Only.refl _ w6).setCell _ _ (.inl rfl)).setCell _ _ (.inr rfl)
      refine ⟨hOa.mono (fun k _ h => by omega), A6, c6, g6, rfl, by rw [HL1.out]; exact HF.out, ?_, ?_, by rw [HL1.out]; exact hg6, hg6c, Only.keep HQ7.out hOa (fun k h => by omega)⟩
      · rw [HL1.out]
        exact (B6.out.other (B' := w.heap.size + 1 + 1 + 1) (by omega) _).set _
      · rw [HL1.out, prs_append, show prs [x] = prc x from by simp [prs]]
        exact ownsRow_only HW6.out hOb (fun g' e => by rw [hg6] at e; cases e; omega)
    · have htest : (((pre.length : Int) + 1) == (m : Int)) = false := by rw [beq_eq_false_iff_ne]; omega
      have HNF := Lib.hid (show pre.length + 1 < m by omega)
      clear hfull
      gi_wp2_with (gi_at_builtin; (first | (refine wpListIn_append_sz rfl _ _ 28 rfl (w.heap.size + 2) 61 i0 (.agg #[.int .u32 0, .int .i64 0]) 2 16 Try.underlying28 hi hz0 hz1 hz2 rfl (by decide) _ pre.length (prs pre) rfl (HQ2.out.alloc _) ⟨W.heap.size, 0, none⟩ 1 1 (prc x) rfl rfl HNEWS.out HONE.out hml HBY.out HBS.out ?_) | (trace "THE REFINE FAILS"; fail)); intro A6 c6 w6 hown6 hgrow6 hbl6; (first | have hO6 := HOG.out A6 c6 w6 hgrow6 | (trace "HOG FAILS"; fail)); (first | have b1 := Boxed.only HQ1.out hO6 (by omega) | (trace "B1 FAILS"; fail)); (first | have b5 := Boxed.only HQ5.out hO6 (by omega) | (trace "B5 FAILS"; fail)); (first | have b6 := Boxed.only HQ6.out hO6 (by omega) | (trace "B6 FAILS"; fail)); (first | (have hc1 := b1.cell; have hf1 := b1.frozen; have hc5 := b5.cell; have hc6 := b6.cell; have hf6 := b6.frozen) | (trace "C FAILS"; fail)); (first | (have HO6 := Lib.hid hO6; have HW6 := Lib.hid hown6; have HBL := Lib.hid hbl6; have B6 := Lib.hid b6; have B1 := Lib.hid b1; have B5 := Lib.hid b5; clear hO6 hown6 hgrow6 hbl6 b1 b5 b6) | (trace "D FAILS"; fail)))
      obtain ⟨g6, hg6, hg6c⟩ : ∃ g6, (Value.slice A6 (pre.length + 1) c6).ownBlock = some g6 ∧ (g6 = w.heap.size + 2 ∨ w.heap.size + 7 + c ≤ g6) := by
        rcases HBL.out with e | e
        · exact ⟨g, e.trans HQ3.out, q4⟩
        · exact ⟨W.heap.size + 1, by simpa using e, .inr (by omega)⟩
      have hOa : Only (fun k => k = g ∨ k = w.heap.size + 3) W (w6.setCell ⟨w.heap.size + 1 + 1 + 1, 0, none⟩ (.slice A6 (pre.length + 1) c6)) := (HO6.out.mono (fun _ _ h => .inl h)).setCell _ _ (.inr rfl)
      have hOb : Only (fun k => k = w.heap.size + 3) w6 (w6.setCell ⟨w.heap.size + 1 + 1 + 1, 0, none⟩ (.slice A6 (pre.length + 1) c6)) := (Only.refl (fun k => k = w.heap.size + 3) w6).setCell _ _ rfl
      refine ⟨hOa.mono (fun k _ h => ⟨⟨by omega, by omega, by omega⟩, by omega, by omega⟩), A6, c6, g6, ?_, ?_, by rw [HL1.out]; exact hg6, hg6c, Boxed.only B5.out hOb (by omega), Boxed.only B6.out hOb (by omega), Only.keep HQ7.out hOa (fun k h => by omega), by rw [HL1.out]; exact HNF.out⟩
      · rw [HL1.out]
        exact B1.out.set _
      · rw [HL1.out, prs_append, show prs [x] = prc x from by simp [prs]]
        exact ownsRow_only HW6.out hOb (fun g' e => by rw [hg6] at e; cases e; omega)
  case done =>
    rintro D c ys W hD rfl ⟨A, cc, g, q1, q2, q3, q4, q5, q6, q7, q8⟩ hdef
    have h1 := HS1.out
    have HTK := Lib.hid (show ys.take m = ys from List.take_of_length_le (by omega))
    have hc := q1.cell
    have hc6 := q6.cell
    have hf6 := q6.frozen
    have HQ2 := Lib.hid q2
    have HQ3 := Lib.hid q3
    have HQ6 := Lib.hid q6
    have HQ7 := Lib.hid q7
    clear q1 q2 q3 q5 q6 q7 HSEQ HST
    gi_wp2
    have hO : Only (fun k => k = w.heap.size + 1 ∨ k = D) W ((W.setCell ⟨w.heap.size + 1, 0, none⟩ (.slice A ys.length cc)).putObj D (.deferred none)) := ((Only.refl _ W).setCell _ _ (.inl rfl)).putObj _ _ (.inr rfl)
    have hK' : (W.setCell ⟨w.heap.size + 1, 0, none⟩ (.slice A ys.length cc)).heap[D]? = some (.deferred (some [])) := (((Only.refl (fun k => k = w.heap.size + 1) W).setCell ⟨w.heap.size + 1, 0, none⟩ (.slice A ys.length cc) rfl).block D (Array.getElem?_eq_some_iff.1 hdef).1 (by omega)).trans hdef
    have hb5 : Boxed ((W.setCell ⟨w.heap.size + 1, 0, none⟩ (.slice A ys.length cc)).putObj D (.deferred none)) (w.heap.size + 1) 28 (.slice A ys.length cc) := (World.putObj_heap_other (by omega)).trans (HQ6.out.set (.slice A ys.length cc))
    have hc5 := hb5.cell
    have hown := ownsRow_putObj (ownsRow_only HQ2.out ((Only.refl (fun k => k = w.heap.size + 1) W).setCell ⟨w.heap.size + 1, 0, none⟩ (.slice A ys.length cc) rfl) (fun g' e => by rw [HQ3.out] at e; cases e; omega)) (.deferred none) hK' rfl
    have hkf := Only.keep HQ7.out hO (fun k h => by omega)
    refine ⟨by simp, .inl ⟨_, _, rfl, run_takeDeferred hK', ?_⟩⟩
    refine ⟨.slice A ys.length cc, by simp [results, Try.f23, go_sem, hc5], ?_⟩
    rw [HTK.out]
    exact ⟨A, cc, rfl, ownsRow_le hown (by omega), hkf⟩
  case stop =>
    rintro D c e pre W hD hS ⟨A, cc, g, rfl, q1, q2, q3, q4, q5, q6⟩ hdef
    have h1 := HS1.out
    have HTK := Lib.hid (show kvs.take m = pre from by rw [← q1]; exact (List.prefix_iff_eq_take.1 hS).symm)
    have hc := q2.cell
    have HQ3 := Lib.hid q3
    have HQ4 := Lib.hid q4
    have HQ6 := Lib.hid q6
    have HQ2 := Lib.hid q2
    clear q2 q3 q4 q6 HSEQ HST
    gi_wp2
    have hO : Only (fun k => k = D) W (W.putObj D (.deferred none)) := (Only.refl _ W).putObj _ _ rfl
    have hb5 : Boxed (W.putObj D (.deferred none)) (w.heap.size + 1) 28 (.slice A pre.length cc) := (World.putObj_heap_other (by omega)).trans HQ2.out
    have hc5 := hb5.cell
    have hown := ownsRow_putObj HQ3.out (.deferred none) hdef rfl
    have hkf := Only.keep HQ6.out hO (fun k h => by omega)
    refine ⟨by simp, .inl ⟨_, _, rfl, run_takeDeferred hdef, ?_⟩⟩
    refine ⟨.slice A pre.length cc, by simp [results, Try.f23, go_sem, hc5], ?_⟩
    rw [HTK.out]
    exact ⟨A, cc, rfl, ownsRow_le hown (by omega), hkf⟩
end Go.Proofs.Ytopengbflnoneaa
