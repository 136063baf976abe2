/- segtree.All: all keys that have a value, rising. -/
import Derived.Test.YtopengbflnoneaaSegApi
import Derived.Test.YtopengbflnoneaaSeqPlan
import Derived.Deep.RegionWith
namespace Go.Proofs.Ytopengbflnoneaa
open Go.RowKit Go.Shelf
attribute [local go_sem] Oper.semAt_some

theorem agat_only {w w' : World} {S : Nat → Prop} {b : Nat} {a : Ag} (h : AgAt w b a) (ho : Only S w w') (hb : ¬ S b) : AgAt w' b a := (ho.block b h.lt hb).trans h
/-- What least answers. -/
def lres : Option (Int × Int) → Int × Ag
  | none => (0, nil0)
  | some p => (p.1, one1 p.2)
theorem least_any {w0 : World} {b lim : Nat} {xs : List Nd} {fr : Int} : ∀ (h : Nat) (lo i : Int) (t : Sh) (kvs : List (Int × Int)) (Pr : Nat → Prop) (w : World), 0 ≤ lo → lo + 2 ^ h - 1 ≤ 4294967295 → Tr xs h lo t kvs → Num xs t i → (-2147483648 ≤ i ∧ i ≤ 2147483647) → kvs.length ≤ 1000000 → My w0 b lim xs Pr w →
    Calls Try.prog 62 #[.pointer (some ⟨b, 0, none⟩), .int .i32 i, .agg #[.int .u32 lo, .int .u32 (lo + 2 ^ h - 1)], .int .u32 fr] w fun e w' => e = .returned (.tuple #[.int .u32 (lres (firstK fr kvs)).1, .agg #[.int .i64 ((lres (firstK fr kvs)).2).c, .int .i64 ((lres (firstK fr kvs)).2).s, .int .i64 ((lres (firstK fr kvs)).2).mn, .int .i64 ((lres (firstK fr kvs)).2).mx]]) ∧ Keep w w'
  | h, lo, i, t, kvs, Pr, w, h0, h1, ht, hn, h32, hl, hM => by
    obtain ⟨z, hz, hnode, hnil, hN⟩ := node_of hM ht hn h32
    have hc := (ht.isOf hl).c
    rw [← hz] at hc
    simp only [nag, vs_length] at hc
    by_cases hk : kvs = []
    · subst hk
      exact least_none (by simpa using hc) hN
    · have hc0 : z.c ≠ 0 := fun e => hk (List.eq_nil_of_length_eq_zero (by omega))
      by_cases ha : lo + 2 ^ h - 1 < fr
      · rw [firstK_none ht.val fr ha]
        exact least_behind hc0 ha hN
      · obtain ⟨j, l, r, rfl⟩ : ∃ j l r, t = .node j l r := by
          cases t with
          | nil => exact absurd (val_nil_eq ht.val) hk
          | node j l r => exact ⟨j, l, r, rfl⟩
        obtain ⟨hij, hzj, ezl, ezr⟩ := hnode j l r rfl
        cases h with
        | zero =>
          have e0 : lo + 2 ^ 0 - 1 = lo := by simp
          rw [e0] at ha ⊢
          obtain ⟨rfl, rfl, hkv⟩ := ht.at_leaf
          rcases hkv with rfl | ⟨v, hv, rfl⟩
          · exact absurd rfl hk
          · rw [firstK_leaf (by omega)]
            have hz' : nag z = one1 v := hz.trans (ofL_one v)
            have := least_leaf (fr := fr) (lo := lo) (hi := lo) hc0 ha rfl hN
            rw [hz'] at this
            exact this
        | succ h =>
          have e2 := two_pow h
          have epos := pow_pos2 h
          have hkf : z.k = false := by
            cases hzk : z.k with
            | false => rfl
            | true => exact absurd (ht.killed hzj hzk) hk
          obtain ⟨k1, k2, rfl, t1, t2⟩ := ht.halves hzj hkf
          have hl1 : k1.length ≤ 1000000 := by rw [List.length_append] at hl; omega
          have hl2 : k2.length ≤ 1000000 := by rw [List.length_append] at hl; omega
          have eh : lo + 2 ^ h + 2 ^ h - 1 = lo + 2 ^ (h + 1) - 1 := by omega
          have em : lo + 2 ^ h - 1 + 1 = lo + 2 ^ h := by omega
          have hL : ∀ W, Keep w W → Calls Try.prog 62 #[.pointer (some ⟨b, 0, none⟩), .int .i32 z.l, .agg #[.int .u32 lo, .int .u32 (lo + 2 ^ h - 1)], .int .u32 fr] W fun e w' => e = .returned (.tuple #[.int .u32 (lres (firstK fr k1)).1, .agg #[.int .i64 ((lres (firstK fr k1)).2).c, .int .i64 ((lres (firstK fr k1)).2).s, .int .i64 ((lres (firstK fr k1)).2).mn, .int .i64 ((lres (firstK fr k1)).2).mx]]) ∧ Keep W w' := fun W hW =>
            least_any h lo z.l l k1 Pr W h0 (by omega) t1 (by rw [ezl]; exact Num.idx xs l) (by rw [ezl]; exact i32_idx t1.shp hM.top) hl1 (hM.kept hW)
          rw [firstK_append]
          cases hf1 : firstK fr k1 with
          | some p =>
            rw [hf1] at hL
            exact least_left (mid := lo + 2 ^ h - 1) hc0 ha h0 (by omega) h1 (mid_of lo h) (by simp [lres, one1]) hN hL
          | none =>
            rw [hf1] at hL
            have hR : ∀ W, Keep w W → Calls Try.prog 62 #[.pointer (some ⟨b, 0, none⟩), .int .i32 z.r, .agg #[.int .u32 (lo + 2 ^ h - 1 + 1), .int .u32 (lo + 2 ^ (h + 1) - 1)], .int .u32 fr] W fun e w' => e = .returned (.tuple #[.int .u32 (lres (firstK fr k2)).1, .agg #[.int .i64 ((lres (firstK fr k2)).2).c, .int .i64 ((lres (firstK fr k2)).2).s, .int .i64 ((lres (firstK fr k2)).2).mn, .int .i64 ((lres (firstK fr k2)).2).mx]]) ∧ Keep W w' := fun W hW => by
              have := least_any (fr := fr) h (lo + 2 ^ h) z.r r k2 Pr W (by omega) (by omega) t2 (by rw [ezr]; exact Num.idx xs r) (by rw [ezr]; exact i32_idx t2.shp hM.top) hl2 (hM.kept hW)
              rw [eh] at this
              rw [em]
              exact this
            exact least_right (mid := lo + 2 ^ h - 1) hc0 ha h0 (by omega) h1 (mid_of lo h) (by simp [lres, nil0]) hN hL hR
theorem Tre.least {w0 w : World} {b lim n : Nat} {t : Sh} {kvs : List (Int × Int)} {Pr : Nat → Prop} (h : Tre w0 b lim n t kvs Pr w) (hl : kvs.length ≤ 1000000) (fr : Int) :
    Calls Try.prog 62 #[.pointer (some ⟨b, 0, none⟩), .int .i32 1, .agg #[.int .u32 0, .int .u32 4294967295], .int .u32 fr] w fun e w' => e = .returned (.tuple #[.int .u32 (lres (firstK fr kvs)).1, .agg #[.int .i64 ((lres (firstK fr kvs)).2).c, .int .i64 ((lres (firstK fr kvs)).2).s, .int .i64 ((lres (firstK fr kvs)).2).mn, .int .i64 ((lres (firstK fr kvs)).2).mx]]) ∧ Keep w w' := by
  obtain ⟨xs, hM, hT, hN, _⟩ := h
  exact least_any 32 0 1 t kvs Pr w (by decide) (by decide) hT hN (by decide) hl hM
/-- The first of all, and the next one. -/
theorem firstK_zero {kvs : List (Int × Int)} (h : ∀ p ∈ kvs, 0 ≤ p.1) : firstK 0 kvs = kvs[0]? := by
  cases kvs with
  | nil => rfl
  | cons p l => simp [firstK, h p (by simp)]
theorem firstK_next : ∀ {kvs : List (Int × Int)} (q : Nat) (x : Int × Int), Rises kvs → kvs[q]? = some x → firstK (x.1 + 1) kvs = kvs[q + 1]?
  | [], q, x, _, h => by cases h
  | p :: l, 0, x, hr, h => by
    obtain rfl : p = x := by simpa using h
    unfold firstK
    have h1 : ¬ p.1 + 1 ≤ p.1 := by omega
    have h2 : l.filter (fun y => decide (p.1 + 1 ≤ y.1)) = l := by
      apply List.filter_eq_self.2
      intro y hy
      have := (List.pairwise_cons.1 hr).1 y hy
      simp; omega
    simp only [List.filter_cons, h1, decide_false, h2]
    cases l <;> simp
  | p :: l, q + 1, x, hr, h => by
    have h' : l[q]? = some x := by simpa using h
    have hx : x ∈ l := List.mem_of_getElem? h'
    have := (List.pairwise_cons.1 hr).1 x hx
    have h1 : ¬ x.1 + 1 ≤ p.1 := by omega
    have ih := firstK_next q x (List.pairwise_cons.1 hr).2 h'
    unfold firstK at ih ⊢
    simp only [List.filter_cons, h1, decide_false]
    simpa using ih
theorem seq_make {P : Program} {Q : Exit → Act → World → Prop} {S : World → Prop} {o : Oper} {gs : Option (Option Tmp × Bool)} {rest : List (Option RowR)} {a a' : Act} {w w' : World} {v : Value} (hw : wantR gs a.tmps = true) (hr : (execOp a.eval o).run P w = .ok (.value v) w') (hS : S w') (ha : a.put o.dst v = a') (h : SeqR P Q S rest a' w') :
    SeqR P Q S (some ⟨o, gs, true⟩ :: rest) a w := by
  subst ha
  refine .inl ⟨rfl, fun K hK => ?_⟩
  simp only [hw, if_true]
  unfold Oper.wp
  rw [hr]
  exact hK.out _ _ hS h
/-- What a round may turn: all but what lay ahead of n₀, the box Bt, and the iterator's own. -/
def TA (n₀ Bt B c k : Nat) : Prop := n₀ ≤ k ∧ k ≠ Bt ∧ ¬ (B ≤ k ∧ k < B + c)
/-- Nothing ahead of n₀, and not the box Bt, has turned. -/
def Bw (n₀ Bt : Nat) (W X : World) : Prop := Below n₀ W X ∧ X.heap[Bt]? = W.heap[Bt]?
theorem Bw.keep {n₀ Bt : Nat} {W X : World} (h : Keep W X) (hn : n₀ ≤ W.heap.size) (hb : Bt < W.heap.size) : Bw n₀ Bt W X := ⟨Below.mono h hn, h.block Bt hb⟩
theorem Bw.trans {n₀ Bt : Nat} {W X Y : World} (h : Bw n₀ Bt W X) (h' : Bw n₀ Bt X Y) : Bw n₀ Bt W Y := ⟨h.1.trans h'.1, h'.2.trans h.2⟩
theorem Bw.only {n₀ Bt : Nat} {W X : World} {S : Nat → Prop} (h : Only S W X) (hn : n₀ ≤ W.heap.size) (hb : Bt < W.heap.size) (hS : ∀ k, S k → n₀ ≤ k ∧ k ≠ Bt) : Bw n₀ Bt W X := ⟨h.below hn (fun k hk => (hS k hk).1), h.block Bt hb (fun hk => (hS Bt hk).2 rfl)⟩
theorem Bw.size {n₀ Bt : Nat} {W X : World} (h : Bw n₀ Bt W X) : W.heap.size ≤ X.heap.size := h.1.size
set_option maxRecDepth 100000 in
set_option maxHeartbeats 2000000 in
theorem tall1_in (n : Nat) (hn : 1 ≤ n) (l : Nat) (J Jx : Nat → List (Int × Int) → World → Prop) {w0 W : World} {b lim m : Nat} {t : Sh} {kvs : List (Int × Int)} {n₀ Bt : Nat}
    (hJ : ∀ c s X Y, J c s X → Only (fun k => W.heap.size ≤ k ∧ k < W.heap.size + c) X Y → J c s Y)
    (hY : ∀ c pre x W1, J c pre W1 → W.heap.size + c ≤ W1.heap.size → pre.length < kvs.length → YieldAt Fence.wide (n - 1) Try.prog l #[.int .u32 x.1, .int .i64 x.2] W1 fun e W' =>
      (e = .returned (.bool true) ∧ J c (pre ++ [x]) W' ∧ Only (TA n₀ Bt W.heap.size c) W1 W') ∨ (e = .returned (.bool false) ∧ Jx c (pre ++ [x]) W'))
    (hT : ∀ X, Below n₀ W X → ∃ Pr, Tre w0 b lim m t kvs Pr X) (hl : kvs.length ≤ 1000000) (hn₀ : n₀ ≤ W.heap.size)
    (ct : W.cell? ⟨Bt, 0, none⟩ = some (.pointer (some ⟨b, 0, none⟩)))
    (h0 : ∀ c, J c [] W) :
    CallsIn Fence.wide n Try.prog 61 #[.func (.yield l) #[] #[], .pointer (some ⟨Bt, 0, none⟩)] W fun e W' => (∃ v, e = .returned v) ∧
      ((∃ c ys, ys = kvs ∧ J c ys W') ∨ (∃ c pre, pre <+: kvs ∧ Jx c pre W')) := by
  obtain ⟨Pr, hTW⟩ := hT W (Below.refl _ _)
  have hris := hTW.rises
  have hrange := hTW.range
  have hBt : Bt < W.heap.size := cell_lt ct
  have HLE := Lib.hid (fun X (hX : Below n₀ W X) fr => by obtain ⟨Pr', h⟩ := hT X hX; exact h.least hl fr)
  have HRI := Lib.hid hris
  have HRA := Lib.hid hrange
  have HJ := Lib.hid hJ
  have HY := Lib.hid hY
  clear hT hTW hris hrange hJ hY
  refine callsIn_of_wp Try.func61 rfl trivial ?_ rfl
  simp only [Try.ntmps61, List.size_toArray, List.length_cons, List.length_nil, Nat.reduceAdd, Nat.reduceSub, Array.replicate_succ, Array.replicate_zero, List.push_toArray, List.append_toArray, List.nil_append, List.cons_append]
  have HCT := Lib.hid (show ∀ X, Keep W X → True ∧ (X.cell? ⟨Bt, 0, none⟩ = some (.pointer (some ⟨b, 0, none⟩))) from fun X hX => ⟨trivial, (hX.cell (p := ⟨Bt, 0, none⟩) (by dsimp only; omega)).trans ct⟩)
  have HL0 := Lib.hid (fun X (hX : Keep W X) => HLE.out X (Below.mono hX hn₀) 0)
  have hr0 : lres (firstK 0 kvs) = lres kvs[0]? := by rw [firstK_zero (fun p hp => (HRA.out p hp).1)]
  generalize lres (firstK 0 kvs) = r at *
  have HR0 := Lib.hid hr0
  clear hr0
  gi_wp2_with fail
  obtain ⟨Q0, hQ0⟩ : ∃ Q0 : Exit → Act → World → Prop, Q0 = fun e a X => e = .normal ∧ ∃ p, W.heap.size ≤ p ∧ p < X.heap.size ∧ Keep W X ∧ AgAt X p r.2 ∧ a = { tmps := #[.func (.yield l) #[] #[], .pointer (some ⟨Bt, 0, none⟩), undef, .int .u32 r.1, .pointer (some ⟨p, 0, none⟩), .tuple #[.int .u32 r.1, .agg #[.int .i64 r.2.c, .int .i64 r.2.s, .int .i64 r.2.mn, .int .i64 r.2.mx]], .pointer (some ⟨b, 0, none⟩), .agg #[.int .u32 0, .int .u32 4294967295], .tuple #[.int .u32 r.1, .agg #[.int .i64 r.2.c, .int .i64 r.2.s, .int .i64 r.2.mn, .int .i64 r.2.mx]], .int .u32 r.1, .agg #[.int .i64 r.2.c, .int .i64 r.2.s, .int .i64 r.2.mn, .int .i64 r.2.mx], undef, undef, undef, undef, undef, undef, undef, undef, undef, undef, undef, undef, undef, undef, undef, undef, undef, undef, undef, undef, undef, undef], defers := [] } := ⟨_, rfl⟩
  refine wpIn_mono (Q := Q0) (wpIn_wide.2 ?_) ?_
  · have hKd := (Keep.refl W).drew
    refine plan_region (S := fun w' => True ∧ (w'.cell? ⟨Bt, 0, none⟩ = some (.pointer (some ⟨b, 0, none⟩)))) [⟨0, 2, 64⟩, ⟨0, 0, 128⟩, ⟨3, 192, 256⟩, ⟨4, 256, 32⟩, ⟨8, 32, 512⟩, ⟨8, 32, 1024⟩, ⟨0, 0, 16⟩, ⟨95, 512, 8⟩, ⟨255, 1040, 0⟩] (.step 0 false (.fork 1 (.fork 2 (.fin [(3, false), (4, false), (5, false), (6, true), (7, false), (8, true)]) 6 (.fin [(2, true), (3, false), (4, false), (5, false), (7, false), (8, true)])) 6 (.fin [(1, true), (2, true), (3, false), (4, false), (5, false), (7, false), (8, true)]))) rfl (by kernel_rfl) (by kernel_rfl) (fun _ _ d _ _ h => by rw [hQ0] at h; cases h.1) (HCT.out _ hKd) ?_
    generalize W.drew = Wd at *
    try simp only [PlanR, gslot, List.getElem?_toArray, List.getElem?_cons_zero, List.getElem?_cons_succ]
    refine first_take (v := ?_) (a' := ?_) (by rfl) ?_ ?_ ?_
    rotate_left 2
    · (intro w hSw; obtain ⟨-, hSw⟩ := hSw; go_simp; with_reducible rfl)
    · (simp only [Act.put, List.setIfInBounds_toArray, List.set_cons_zero, List.set_cons_succ]; with_reducible rfl)
    try simp only [PlanR, gslot, List.getElem?_toArray, List.getElem?_cons_zero, List.getElem?_cons_succ]
    refine ⟨?_, ?_⟩
    · have hKc := hKd
      refine br_call (R := fun w' => Keep W w') (f := 33) (args := ?_) (v := ?_) (a' := ?_) (by rfl) (by rfl) (by rfl) Try.call33 ?_ ?_ ?_ ?_
      rotate_left 3
      · (go_simp; with_reducible rfl)
      · ((with_reducible refine (every_is _).mono ?_)
         rintro e w' ⟨rfl, hk⟩
         refine ⟨?_, HCT.out _ (hKc.trans hk), hKc.trans hk⟩
         with_reducible rfl)
      · (simp only [Act.put, List.setIfInBounds_toArray, List.set_cons_zero, List.set_cons_succ]; with_reducible rfl)
      have hKp := hKc
      clear hKc
      intro w2 hw hKc
      clear hw
      try simp only [PlanR, gslot, List.getElem?_toArray, List.getElem?_cons_zero, List.getElem?_cons_succ]
      refine ⟨?_, ?_⟩
      · skip
        refine br_call (R := fun w' => Keep W w') (f := 62) (args := ?_) (v := ?_) (a' := ?_) (by rfl) (by rfl) (by rfl) Try.call62 ?_ ?_ ?_ ?_
        rotate_left 3
        · (go_simp; with_reducible rfl)
        · ((with_reducible refine (HL0.out _ hKc).mono ?_)
           rintro e w' ⟨rfl, hk⟩
           refine ⟨?_, HCT.out _ (hKc.trans hk), hKc.trans hk⟩
           with_reducible rfl)
        · (simp only [Act.put, List.setIfInBounds_toArray, List.set_cons_zero, List.set_cons_succ]; with_reducible rfl)
        have hKp := hKc
        clear hKc
        intro w3 hw hKc
        clear hw
        try simp only [rowsOf, rowAt, gslot, List.map_cons, List.map_nil, List.getElem?_toArray, List.getElem?_cons_zero, List.getElem?_cons_succ]
        repeat (first
          | (refine seq_take (v := ?_) (a' := ?_) (by rfl) ?_ ?_ ?_
             rotate_left 2
             · (intro w hSw; obtain ⟨-, hSw⟩ := hSw; go_split_ands; go_simp; with_reducible rfl)
             · (simp only [Act.put, List.setIfInBounds_toArray, List.set_cons_zero, List.set_cons_succ]; with_reducible rfl)))
        refine seq_make (v := .pointer (some ⟨w3.heap.size, 0, none⟩)) (w' := w3.alloc (.cells #[.int .i64 0, .int .i64 0, .int .i64 0, .int .i64 0] 38)) (a' := ?_) (by rfl) (by go_simp) (HCT.out _ (hKc.alloc _)) ?_ ?_
        rotate_left
        · (simp only [Act.put, List.setIfInBounds_toArray, List.set_cons_zero, List.set_cons_succ]; with_reducible rfl)
        have hAg : AgAt (w3.alloc (.cells #[.int .i64 0, .int .i64 0, .int .i64 0, .int .i64 0] 38)) w3.heap.size nil0 := AgAt.new w3 nil0
        have hpl : W.heap.size ≤ w3.heap.size := hKc.size
        have hKc := hKc.alloc (.cells #[.int .i64 0, .int .i64 0, .int .i64 0, .int .i64 0] 38)
        repeat (first
          | (refine seq_take (v := ?_) (a' := ?_) (by rfl) ?_ ?_ ?_
             rotate_left 2
             · (intro w hSw; obtain ⟨-, hSw⟩ := hSw; go_split_ands; go_simp; with_reducible rfl)
             · (simp only [Act.put, List.setIfInBounds_toArray, List.set_cons_zero, List.set_cons_succ]; with_reducible rfl)))
        obtain ⟨a0, a1, a2, a3⟩ := hAg.cells
        dsimp only [nil0] at a0 a1 a2 a3
        obtain ⟨f0, f1, f2, f3⟩ := hAg.free
        have hkF : Keep W (((((w3.alloc (.cells #[.int .i64 0, .int .i64 0, .int .i64 0, .int .i64 0] 38)).setCell ⟨w3.heap.size, 0, none⟩ (.int .i64 r.2.c)).setCell ⟨w3.heap.size, 1, none⟩ (.int .i64 r.2.s)).setCell ⟨w3.heap.size, 2, none⟩ (.int .i64 r.2.mn)).setCell ⟨w3.heap.size, 3, none⟩ (.int .i64 r.2.mx)) := Only.keep hKc (set_only (S := fun k => k = w3.heap.size) (Only.refl _ _) rfl) (fun k hk => by omega)
        have hF := set_at hAg r.2.c r.2.s r.2.mn r.2.mx
        refine seq_store (w' := (((((w3.alloc (.cells #[.int .i64 0, .int .i64 0, .int .i64 0, .int .i64 0] 38)).setCell ⟨w3.heap.size, 0, none⟩ (.int .i64 r.2.c)).setCell ⟨w3.heap.size, 1, none⟩ (.int .i64 r.2.s)).setCell ⟨w3.heap.size, 2, none⟩ (.int .i64 r.2.mn)).setCell ⟨w3.heap.size, 3, none⟩ (.int .i64 r.2.mx))) (a' := ?_) (by rfl) (by go_simp) (HCT.out _ hkF) ?_ ?_
        rotate_left
        · (simp only [Act.put]; with_reducible rfl)
        refine seq_nil ?_
        rw [hQ0]
        exact ⟨rfl, w3.heap.size, hpl, hF.lt, hkF, hF, rfl⟩
      · skip
        refine br_make (v := .pointer (some ⟨w2.heap.size, 0, none⟩)) (w' := w2.alloc (.cells #[.int .i64 0, .int .i64 0, .int .i64 0, .int .i64 0] 38)) (a' := ?_) (by rfl) (by go_simp) (HCT.out _ (hKc.alloc _)) ?_ ?_
        rotate_left
        · (simp only [Act.put, List.setIfInBounds_toArray, List.set_cons_zero, List.set_cons_succ]; with_reducible rfl)
        have hAg : AgAt (w2.alloc (.cells #[.int .i64 0, .int .i64 0, .int .i64 0, .int .i64 0] 38)) w2.heap.size nil0 := AgAt.new w2 nil0
        have hpl : W.heap.size ≤ w2.heap.size := hKc.size
        have hKc := hKc.alloc (.cells #[.int .i64 0, .int .i64 0, .int .i64 0, .int .i64 0] 38)
        generalize hgV : w2.alloc (.cells #[.int .i64 0, .int .i64 0, .int .i64 0, .int .i64 0] 38) = V at *
        try simp only [rowsOf, rowAt, gslot, List.map_cons, List.map_nil, List.getElem?_toArray, List.getElem?_cons_zero, List.getElem?_cons_succ]
        repeat (first
          | (refine seq_take (v := ?_) (a' := ?_) (by rfl) ?_ ?_ ?_
             rotate_left 2
             · (intro w hSw; obtain ⟨-, hSw⟩ := hSw; go_split_ands; go_simp; with_reducible rfl)
             · (simp only [Act.put, List.setIfInBounds_toArray, List.set_cons_zero, List.set_cons_succ]; with_reducible rfl)))
        refine seq_callR (R := fun w' => Keep W w' ∧ Keep V w') (f := 62) (args := ?_) (v := ?_) (a' := ?_) (by rfl) (by rfl) (by rfl) Try.call62 ?_ ?_ ?_ ?_
        rotate_left 3
        · (go_simp; with_reducible rfl)
        · ((with_reducible refine (HL0.out _ hKc).mono ?_)
           rintro e w' ⟨rfl, hk⟩
           refine ⟨?_, HCT.out _ (hKc.trans hk), hKc.trans hk, hk⟩
           with_reducible rfl)
        · (simp only [Act.put, List.setIfInBounds_toArray, List.set_cons_zero, List.set_cons_succ]; with_reducible rfl)
        have hKp := hKc
        have hAg' := hAg
        clear hAg
        clear hKc
        intro w3 hw ⟨hKc, hKv⟩
        have hAg := hAg'.keep hKv
        clear hw
        repeat (first
          | (refine seq_take (v := ?_) (a' := ?_) (by rfl) ?_ ?_ ?_
             rotate_left 2
             · (intro w hSw; obtain ⟨-, hSw⟩ := hSw; go_split_ands; go_simp; with_reducible rfl)
             · (simp only [Act.put, List.setIfInBounds_toArray, List.set_cons_zero, List.set_cons_succ]; with_reducible rfl)))
        obtain ⟨a0, a1, a2, a3⟩ := hAg.cells
        dsimp only [nil0] at a0 a1 a2 a3
        obtain ⟨f0, f1, f2, f3⟩ := hAg.free
        have hkF : Keep W ((((w3.setCell ⟨w2.heap.size, 0, none⟩ (.int .i64 r.2.c)).setCell ⟨w2.heap.size, 1, none⟩ (.int .i64 r.2.s)).setCell ⟨w2.heap.size, 2, none⟩ (.int .i64 r.2.mn)).setCell ⟨w2.heap.size, 3, none⟩ (.int .i64 r.2.mx)) := Only.keep hKc (set_only (S := fun k => k = w2.heap.size) (Only.refl _ _) rfl) (fun k hk => by omega)
        have hF := set_at hAg r.2.c r.2.s r.2.mn r.2.mx
        refine seq_store (w' := ((((w3.setCell ⟨w2.heap.size, 0, none⟩ (.int .i64 r.2.c)).setCell ⟨w2.heap.size, 1, none⟩ (.int .i64 r.2.s)).setCell ⟨w2.heap.size, 2, none⟩ (.int .i64 r.2.mn)).setCell ⟨w2.heap.size, 3, none⟩ (.int .i64 r.2.mx))) (a' := ?_) (by rfl) (by go_simp) (HCT.out _ hkF) ?_ ?_
        rotate_left
        · (simp only [Act.put]; with_reducible rfl)
        refine seq_nil ?_
        rw [hQ0]
        exact ⟨rfl, w2.heap.size, hpl, hF.lt, hkF, hF, rfl⟩
    · have hKc := hKd
      refine br_make (v := .pointer (some ⟨Wd.heap.size, 0, none⟩)) (w' := Wd.alloc (.cells #[.int .i64 0, .int .i64 0, .int .i64 0, .int .i64 0] 38)) (a' := ?_) (by rfl) (by go_simp) (HCT.out _ (hKc.alloc _)) ?_ ?_
      rotate_left
      · (simp only [Act.put, List.setIfInBounds_toArray, List.set_cons_zero, List.set_cons_succ]; with_reducible rfl)
      have hAg : AgAt (Wd.alloc (.cells #[.int .i64 0, .int .i64 0, .int .i64 0, .int .i64 0] 38)) Wd.heap.size nil0 := AgAt.new Wd nil0
      have hpl : W.heap.size ≤ Wd.heap.size := hKc.size
      have hKc := hKc.alloc (.cells #[.int .i64 0, .int .i64 0, .int .i64 0, .int .i64 0] 38)
      generalize hgV : Wd.alloc (.cells #[.int .i64 0, .int .i64 0, .int .i64 0, .int .i64 0] 38) = V at *
      try simp only [rowsOf, rowAt, gslot, List.map_cons, List.map_nil, List.getElem?_toArray, List.getElem?_cons_zero, List.getElem?_cons_succ]
      repeat (first
        | (refine seq_take (v := ?_) (a' := ?_) (by rfl) ?_ ?_ ?_
           rotate_left 2
           · (intro w hSw; obtain ⟨-, hSw⟩ := hSw; go_split_ands; go_simp; with_reducible rfl)
           · (simp only [Act.put, List.setIfInBounds_toArray, List.set_cons_zero, List.set_cons_succ]; with_reducible rfl)))
      refine seq_callR (R := fun w' => Keep W w' ∧ Keep V w') (f := 33) (args := ?_) (v := ?_) (a' := ?_) (by rfl) (by rfl) (by rfl) Try.call33 ?_ ?_ ?_ ?_
      rotate_left 3
      · (go_simp; with_reducible rfl)
      · ((with_reducible refine (every_is _).mono ?_)
         rintro e w' ⟨rfl, hk⟩
         refine ⟨?_, HCT.out _ (hKc.trans hk), hKc.trans hk, hk⟩
         with_reducible rfl)
      · (simp only [Act.put, List.setIfInBounds_toArray, List.set_cons_zero, List.set_cons_succ]; with_reducible rfl)
      have hKp := hKc
      have hAg' := hAg
      clear hAg
      clear hKc
      intro w2 hw ⟨hKc, hKv⟩
      have hAg := hAg'.keep hKv
      clear hAg' hKp hKv
      clear hw
      repeat (first
        | (refine seq_take (v := ?_) (a' := ?_) (by rfl) ?_ ?_ ?_
           rotate_left 2
           · (intro w hSw; obtain ⟨-, hSw⟩ := hSw; go_split_ands; go_simp; with_reducible rfl)
           · (simp only [Act.put, List.setIfInBounds_toArray, List.set_cons_zero, List.set_cons_succ]; with_reducible rfl)))
      refine seq_callR (R := fun w' => Keep W w' ∧ Keep w2 w') (f := 62) (args := ?_) (v := ?_) (a' := ?_) (by rfl) (by rfl) (by rfl) Try.call62 ?_ ?_ ?_ ?_
      rotate_left 3
      · (go_simp; with_reducible rfl)
      · ((with_reducible refine (HL0.out _ hKc).mono ?_)
         rintro e w' ⟨rfl, hk⟩
         refine ⟨?_, HCT.out _ (hKc.trans hk), hKc.trans hk, hk⟩
         with_reducible rfl)
      · (simp only [Act.put, List.setIfInBounds_toArray, List.set_cons_zero, List.set_cons_succ]; with_reducible rfl)
      have hKp := hKc
      have hAg' := hAg
      clear hAg
      clear hKc
      intro w3 hw ⟨hKc, hKv⟩
      have hAg := hAg'.keep hKv
      clear hAg' hKp hKv
      clear hw
      repeat (first
        | (refine seq_take (v := ?_) (a' := ?_) (by rfl) ?_ ?_ ?_
           rotate_left 2
           · (intro w hSw; obtain ⟨-, hSw⟩ := hSw; go_split_ands; go_simp; with_reducible rfl)
           · (simp only [Act.put, List.setIfInBounds_toArray, List.set_cons_zero, List.set_cons_succ]; with_reducible rfl)))
      obtain ⟨a0, a1, a2, a3⟩ := hAg.cells
      dsimp only [nil0] at a0 a1 a2 a3
      obtain ⟨f0, f1, f2, f3⟩ := hAg.free
      have hkF : Keep W ((((w3.setCell ⟨Wd.heap.size, 0, none⟩ (.int .i64 r.2.c)).setCell ⟨Wd.heap.size, 1, none⟩ (.int .i64 r.2.s)).setCell ⟨Wd.heap.size, 2, none⟩ (.int .i64 r.2.mn)).setCell ⟨Wd.heap.size, 3, none⟩ (.int .i64 r.2.mx)) := Only.keep hKc (set_only (S := fun k => k = Wd.heap.size) (Only.refl _ _) rfl) (fun k hk => by omega)
      have hF := set_at hAg r.2.c r.2.s r.2.mn r.2.mx
      refine seq_store (w' := ((((w3.setCell ⟨Wd.heap.size, 0, none⟩ (.int .i64 r.2.c)).setCell ⟨Wd.heap.size, 1, none⟩ (.int .i64 r.2.s)).setCell ⟨Wd.heap.size, 2, none⟩ (.int .i64 r.2.mn)).setCell ⟨Wd.heap.size, 3, none⟩ (.int .i64 r.2.mx))) (a' := ?_) (by rfl) (by go_simp) (HCT.out _ hkF) ?_ ?_
      rotate_left
      · (simp only [Act.put]; with_reducible rfl)
      refine seq_nil ?_
      rw [hQ0]
      exact ⟨rfl, Wd.heap.size, hpl, hF.lt, hkF, hF, rfl⟩
  · intro e a X hq
    rw [hQ0] at hq
    obtain ⟨rfl, p, hp1, hp2, hKX, hAX, rfl⟩ := hq
    dsimp only
    obtain ⟨c, hc⟩ : ∃ c, W.heap.size + c = p + 1 := ⟨p + 1 - W.heap.size, by omega⟩
    have HC := Lib.hid hc
    have HH0 := Lib.hid (HJ.out c [] W X (h0 c) (Only.of_keep _ hKX))
    have HA0 := Lib.hid hAX
    have HB0 := Lib.hid (show Bw n₀ Bt W X from Bw.keep hKX hn₀ hBt)
    have HSZ := Lib.hid hp2
    have HCT2 := Lib.hid (show ∀ Y, Bw n₀ Bt W Y → Y.cell? ⟨Bt, 0, none⟩ = some (.pointer (some ⟨b, 0, none⟩)) from fun Y hY => (World.cell?_of_block (a := ⟨Bt, 0, none⟩) hY.2).trans ct)
    clear hQ0 hKX hAX h0 HCT HL0 hp2 hc
    gi_wp2_with fail
    gi_loopw [3] (fun k wr => ∃ q : Nat, q ≤ kvs.length ∧ k = .int .u32 (lres kvs[q]?).1 ∧ p < wr.heap.size ∧ Hid (AgAt wr p (lres kvs[q]?).2) ∧ Hid (J c (kvs.take q) wr) ∧ Hid (Bw n₀ Bt W wr)) (fun k wr => (intOf ((wr.cell? ⟨p, 0, none⟩).getD undef)).toNat * (4294967296 - intOf k).toNat)
    case atStart =>
      refine ⟨0, Nat.zero_le _, by rw [← HR0.out], HSZ.out, ?_, HH0, HB0⟩
      rw [← HR0.out]
      exact HA0
    case round =>
      obtain ⟨q, hq, rfl, hps, HA, HJq, HB⟩ := hrel
      clear HH0 HA0 HB0 HR0 HSZ
      by_cases hlt : q < kvs.length
      · obtain ⟨x, hx⟩ : ∃ x, kvs[q]? = some x := ⟨_, List.getElem?_eq_getElem hlt⟩
        have hmem : x ∈ kvs := List.mem_of_getElem? hx
        obtain ⟨x0, x1, x2⟩ := HRA.out x hmem
        have HNX := Lib.hid (firstK_next q x HRI.out hx)
        have HTK := Lib.hid (show kvs.take (q + 1) = kvs.take q ++ [x] by rw [List.take_add_one, hx]; rfl)
        have hlast : ¬ x.1 < 4294967295 → q + 1 = kvs.length := fun hn => by
          rcases Nat.lt_or_ge (q + 1) kvs.length with h | h
          · exfalso
            have h1 : kvs[q] = x := by rw [List.getElem?_eq_getElem hlt] at hx; exact Option.some.inj hx
            have h2 := (List.pairwise_iff_getElem.1 HRI.out) q (q + 1) hlt h (by omega)
            have h3 := HRA.out kvs[q + 1] (List.getElem_mem h)
            rw [h1] at h2
            omega
          · omega
        have HLA := Lib.hid hlast
        rw [hx] at HA
        have hlres : lres (some x) = (x.1, one1 x.2) := rfl
        rw [hx, hlres]
        rw [hlres] at HA
        have hXI := Lib.hid x2
        obtain ⟨a0, a1, a2, a3⟩ := HA.out.cells
        dsimp only [one1] at a0 a1 a2 a3
        obtain ⟨fn, tmps, assign, body, hy, hR⟩ := HY.out c (kvs.take q) x wr HJq.out (by have := HC.out; omega) (by rw [List.length_take]; omega)
        have HR := Lib.hid hR
        have HHX := Lib.hid hx
        clear hR hmem hlast hlres hx x2
        dsimp only
        gi_wp2_with fail
        refine HR.out.mono ?_
        rintro e W3 (⟨rfl, hJ3, ho3⟩ | ⟨rfl, hJx3⟩)
        · have hwr : n₀ ≤ wr.heap.size := Nat.le_trans hn₀ HB.out.size
          have HB3 := Lib.hid (HB.out.trans (Bw.only ho3 hwr (Nat.lt_of_lt_of_le hBt HB.out.size) (fun k h => ⟨h.1, h.2.1⟩)))
          have HA3 := Lib.hid (agat_only HA.out ho3 (fun h => h.2.2 ⟨hp1, by have := HC.out; omega⟩))
          have HJ3 := Lib.hid (show J c (kvs.take (q + 1)) W3 from by rw [HTK.out]; exact hJ3)
          have hs3 : n₀ ≤ W3.heap.size := Nat.le_trans hn₀ HB3.out.size
          clear HR hy ho3 hJ3 HB HA HJq
          by_cases hl9 : x.1 < 4294967295
          · have hmod : (x.1 + 1) % 4294967296 = x.1 + 1 := by omega
            have hle := fun X (hX : Bw n₀ Bt W X) => HLE.out X hX.1 (IntKind.u32.wrap (x.1 + 1))
            have hnx : firstK (IntKind.u32.wrap (x.1 + 1)) kvs = kvs[q + 1]? := by rw [IntKind.wrap_u32, hmod]; exact HNX.out
            rw [hnx] at hle
            clear hnx hmod
            have hmeas : (lres kvs[q + 1]?).2.c.toNat * (4294967296 - (lres kvs[q + 1]?).1).toNat < 1 * (4294967296 - x.1).toNat := by
              cases hy2 : kvs[q + 1]? with
              | none => simp [lres, nil0]; omega
              | some y =>
                obtain ⟨hlt2, h2⟩ := List.getElem?_eq_some_iff.1 hy2
                have h1 : kvs[q] = x := by have := HHX.out; rw [List.getElem?_eq_getElem hlt] at this; exact Option.some.inj this
                have h3 := (List.pairwise_iff_getElem.1 HRI.out) q (q + 1) hlt hlt2 (by omega)
                rw [h1, h2] at h3
                have h4 := HRA.out y (List.mem_of_getElem? hy2)
                simp [lres, one1]
                omega
            obtain ⟨r2, hr2⟩ : ∃ r2, r2 = lres kvs[q + 1]? := ⟨_, rfl⟩
            rw [← hr2] at hle hmeas
            have HR2 := Lib.hid hr2
            have HL2 := Lib.hid hle
            have HME := Lib.hid hmeas
            have HKB := Lib.hid (show ∀ X, Keep W3 X → Bw n₀ Bt W X from fun X hX => HB3.out.trans (Bw.keep hX hs3 (Nat.lt_of_lt_of_le hBt HB3.out.size)))
            have HC3 := Lib.hid (show ∀ X, Keep W3 X → True ∧ (X.cell? ⟨Bt, 0, none⟩ = some (.pointer (some ⟨b, 0, none⟩))) from fun X hX => ⟨trivial, HCT2.out X (HKB.out X hX)⟩)
            clear hr2 hle hmeas a1 a2 a3
            gi_wp2_with fail
            refine wpIn_wide.2 ?_
            have hKc := (Keep.refl W3).drew
            refine seq_region (S := fun w' => True ∧ (w'.cell? ⟨Bt, 0, none⟩ = some (.pointer (some ⟨b, 0, none⟩)))) [⟨0, 2, 67108864⟩, ⟨0, 0, 134217728⟩, ⟨0, 8, 268435456⟩, ⟨4, 268435456, 536870912⟩, ⟨11, 738197504, 1073741824⟩, ⟨16, 1073741824, 33554432⟩, ⟨32, 33554432, 2147483648⟩, ⟨32, 33554432, 4294967296⟩, ⟨127, 2147483648, 8⟩, ⟨511, 4294967312, 0⟩] [(0, false), (2, false), (3, false), (1, true), (4, true), (5, false), (6, false), (7, false), (8, false), (9, true)] rfl (by kernel_rfl) (by kernel_rfl) (fun _ _ d _ _ h => by cases d <;> exact h) (HC3.out _ hKc) ?_
            simp only [rowsOf, rowAt, gslot, List.map_cons, List.map_nil, List.getElem?_toArray, List.getElem?_cons_zero, List.getElem?_cons_succ]
            repeat (first
              | (refine seq_take (v := ?_) (a' := ?_) (by rfl) ?_ ?_ ?_
                 rotate_left 2
                 · (intro w hSw; obtain ⟨-, hSw⟩ := hSw; go_split_ands; go_simp; with_reducible rfl)
                 · (simp only [Act.put, List.setIfInBounds_toArray, List.set_cons_zero, List.set_cons_succ]; with_reducible rfl)))
            refine seq_callR (R := fun w' => Keep W3 w') (f := 33) (args := ?_) (v := ?_) (a' := ?_) (by rfl) (by rfl) (by rfl) Try.call33 ?_ ?_ ?_ ?_
            rotate_left 3
            · (go_simp; with_reducible rfl)
            · ((with_reducible refine (every_is _).mono ?_)
               rintro e w' ⟨rfl, hk⟩
               refine ⟨?_, HC3.out _ (hKc.trans hk), hKc.trans hk⟩
               with_reducible rfl)
            · (simp only [Act.put, List.setIfInBounds_toArray, List.set_cons_zero, List.set_cons_succ]; with_reducible rfl)
            clear hKc
            intro w2 hw2 hKc
            clear hw2
            repeat (first
              | (refine seq_take (v := ?_) (a' := ?_) (by rfl) ?_ ?_ ?_
                 rotate_left 2
                 · (intro w hSw; obtain ⟨-, hSw⟩ := hSw; go_split_ands; go_simp; with_reducible rfl)
                 · (simp only [Act.put, List.setIfInBounds_toArray, List.set_cons_zero, List.set_cons_succ]; with_reducible rfl)))
            refine seq_callR (R := fun w' => Keep W3 w') (f := 62) (args := ?_) (v := ?_) (a' := ?_) (by rfl) (by rfl) (by rfl) Try.call62 ?_ ?_ ?_ ?_
            rotate_left 3
            · (go_simp; with_reducible rfl)
            · ((with_reducible refine (HL2.out _ (HKB.out _ hKc)).mono ?_)
               rintro e w' ⟨rfl, hk⟩
               refine ⟨?_, HC3.out _ (hKc.trans hk), hKc.trans hk⟩
               with_reducible rfl)
            · (simp only [Act.put, List.setIfInBounds_toArray, List.set_cons_zero, List.set_cons_succ]; with_reducible rfl)
            clear hKc
            intro w3 hw3 hKc
            clear hw3
            repeat (first
              | (refine seq_take (v := ?_) (a' := ?_) (by rfl) ?_ ?_ ?_
                 rotate_left 2
                 · (intro w hSw; obtain ⟨-, hSw⟩ := hSw; go_split_ands; go_simp; with_reducible rfl)
                 · (simp only [Act.put, List.setIfInBounds_toArray, List.set_cons_zero, List.set_cons_succ]; with_reducible rfl)))
            have HA4 := Lib.hid (HA3.out.keep hKc)
            obtain ⟨b0, b1, b2, b3⟩ := HA4.out.cells
            dsimp only [one1] at b0 b1 b2 b3
            obtain ⟨f0, f1, f2, f3⟩ := HA4.out.free
            have hO4 : Only (fun k => k = p) w3 ((((w3.setCell ⟨p, 0, none⟩ (.int .i64 r2.2.c)).setCell ⟨p, 1, none⟩ (.int .i64 r2.2.s)).setCell ⟨p, 2, none⟩ (.int .i64 r2.2.mn)).setCell ⟨p, 3, none⟩ (.int .i64 r2.2.mx)) := set_only (S := fun k => k = p) (Only.refl _ w3) rfl
            have hB4 : Bw n₀ Bt W ((((w3.setCell ⟨p, 0, none⟩ (.int .i64 r2.2.c)).setCell ⟨p, 1, none⟩ (.int .i64 r2.2.s)).setCell ⟨p, 2, none⟩ (.int .i64 r2.2.mn)).setCell ⟨p, 3, none⟩ (.int .i64 r2.2.mx)) := (HKB.out _ hKc).trans (Bw.only hO4 (Nat.le_trans hs3 hKc.size) (Nat.lt_of_lt_of_le hBt (HKB.out _ hKc).size) (fun k e => by subst e; exact ⟨by omega, by omega⟩))
            have hF4 := set_at HA4.out r2.2.c r2.2.s r2.2.mn r2.2.mx
            refine seq_store (w' := ((((w3.setCell ⟨p, 0, none⟩ (.int .i64 r2.2.c)).setCell ⟨p, 1, none⟩ (.int .i64 r2.2.s)).setCell ⟨p, 2, none⟩ (.int .i64 r2.2.mn)).setCell ⟨p, 3, none⟩ (.int .i64 r2.2.mx))) (a' := ?_) (by rfl) (by go_simp) ⟨trivial, HCT2.out _ hB4⟩ ?_ ?_
            rotate_left
            · (simp only [Act.put]; with_reducible rfl)
            refine seq_nil ?_
            have HB4 := Lib.hid hB4
            have HF4 := Lib.hid (show AgAt ((((w3.setCell ⟨p, 0, none⟩ (.int .i64 r2.2.c)).setCell ⟨p, 1, none⟩ (.int .i64 r2.2.s)).setCell ⟨p, 2, none⟩ (.int .i64 r2.2.mn)).setCell ⟨p, 3, none⟩ (.int .i64 r2.2.mx)) p r2.2 from hF4)
            have hjo : Only (fun k => W.heap.size ≤ k ∧ k < W.heap.size + c) W3 ((((w3.setCell ⟨p, 0, none⟩ (.int .i64 r2.2.c)).setCell ⟨p, 1, none⟩ (.int .i64 r2.2.s)).setCell ⟨p, 2, none⟩ (.int .i64 r2.2.mn)).setCell ⟨p, 3, none⟩ (.int .i64 r2.2.mx)) := (Only.of_keep _ hKc).trans hO4 (fun k _ e => by have := HC.out; omega)
            have HJ4 := Lib.hid (HJ.out c _ _ _ HJ3.out hjo)
            clear hO4 hB4 hF4 hjo b0 b1 b2 b3 f0 f1 f2 f3 hKc
            generalize ((((w3.setCell ⟨p, 0, none⟩ (.int .i64 r2.2.c)).setCell ⟨p, 1, none⟩ (.int .i64 r2.2.s)).setCell ⟨p, 2, none⟩ (.int .i64 r2.2.mn)).setCell ⟨p, 3, none⟩ (.int .i64 r2.2.mx)) = W4 at *
            have hc4 := HF4.out.cells.1
            gi_wp2_with fail
            go_roundw
            case rel =>
              refine ⟨q + 1, hlt, by rw [← HR2.out], HF4.out.lt, ?_, HJ4, HB4⟩
              rw [← HR2.out]
              exact HF4
            case measure =>
              have := HME.out
              simpa [hc4, a0, intOf] using this
          · have hk9 : kvs.take (q + 1) = kvs := List.take_of_length_le (by have := HLA.out (by omega); omega)
            have hl8 : decide (x.1 < 4294967295) = false := decide_eq_false hl9
            have HF := Lib.hid (show J c kvs W3 from by have := HJ3.out; rwa [hk9] at this)
            clear hk9 hl9 a0 a1 a2 a3
            gi_wp2_with fail
            refine bodyPost_end (results_none rfl _ _ _) rfl ?_
            first | exact ⟨⟨_, rfl⟩, .inl ⟨c, kvs, rfl, HF.out⟩⟩ | exact ⟨⟨_, rfl⟩, .inl ⟨c, HF.out⟩⟩
        · have HPX := Lib.hid (show kvs.take q ++ [x] <+: kvs from by rw [← HTK.out]; exact List.take_prefix _ _)
          clear HR hy HB HA HJq a0 a1 a2 a3
          gi_wp2_with fail
          refine bodyPost_end (results_none rfl _ _ _) rfl ?_
          exact ⟨⟨_, rfl⟩, .inr ⟨c, _, HPX.out, hJx3⟩⟩
      · have hqe : q = kvs.length := by omega
        have hk9 : kvs.take q = kvs := List.take_of_length_le (by omega)
        have hnone : kvs[q]? = none := List.getElem?_eq_none (by omega)
        have HF := Lib.hid (show J c kvs wr from by have := HJq.out; rwa [hk9] at this)
        rw [hnone] at HA
        rw [hnone]
        have hlres : lres none = (0, nil0) := rfl
        rw [hlres] at HA ⊢
        obtain ⟨a0, a1, a2, a3⟩ := HA.out.cells
        dsimp only [nil0] at a0 a1 a2 a3
        clear hqe hk9 hnone hlres HJq hlt hq
        dsimp only
        gi_wp2_with (refine wpListIn_skip (by rfl) (by rfl) ?_)
        refine bodyPost_end (results_none rfl _ _ _) rfl ?_
        first | exact ⟨⟨_, rfl⟩, .inl ⟨c, kvs, rfl, HF.out⟩⟩ | exact ⟨⟨_, rfl⟩, .inl ⟨c, HF.out⟩⟩
/-- segtree.All: its tree's place is boxed. -/
theorem tall_in (n b : Nat) (w : World) :
    CallsIn Fence.wide n Try.prog 38 #[.pointer (some ⟨b, 0, none⟩)] w fun e w' => e = .returned (.func (.func 61) #[] #[.pointer (some ⟨w.heap.size, 0, none⟩)]) ∧ w' = w.alloc (.cells #[.pointer (some ⟨b, 0, none⟩)] 24) := by
  refine callsIn_of_wp Try.func38 rfl trivial ?_ rfl
  simp only [Try.ntmps38, List.size_toArray, List.length_cons, List.length_nil, Nat.reduceAdd, Nat.reduceSub, Array.replicate_succ, Array.replicate_zero, List.push_toArray, List.append_toArray, List.nil_append, List.cons_append]
  gi_wp2
  go_ret
  exact ⟨rfl, rfl⟩
/-- What All answers goes through all keys that have a value, rising. -/
theorem tall_seq (n : Nat) (hn : 1 ≤ n) {w0 w w1 : World} {b lim m : Nat} {t : Sh} {kvs : List (Int × Int)} {Pr : Nat → Prop} {Bt : Nat} (hT : Tre w0 b lim m t kvs Pr w) (hk : Keep w w1) (hl : kvs.length ≤ 1000000)
    (ct : w1.cell? ⟨Bt, 0, none⟩ = some (.pointer (some ⟨b, 0, none⟩))) :
    SeqX Fence.wide n Try.prog 61 #[.pointer (some ⟨Bt, 0, none⟩)] (fun x : Int × Int => #[.int .u32 x.1, .int .i64 x.2]) (fun _ _ _ => True) (TA w.heap.size Bt) (fun ys => ys = kvs) (fun pre => pre <+: kvs) kvs.length w1 := by
  intro l J Jx W hW hJ _ hY h0
  have hBt : Bt < w1.heap.size := cell_lt ct
  refine tall1_in n hn l J Jx (m := m) (t := t) (lim := lim) (w0 := w0) (n₀ := w.heap.size) hJ (fun c pre x W1 h1 h2 h3 => hY c pre x W1 h1 trivial h2 h3) (fun X hX => ?_) hl (Nat.le_trans hk.size hW.size) ((hW.cell (p := ⟨Bt, 0, none⟩) hBt).trans ct) h0
  have hwX : Keep w X := Below.trans (hk.trans hW) hX
  exact ⟨_, hT.keep hwX⟩
end Go.Proofs.Ytopengbflnoneaa
