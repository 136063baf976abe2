/- AreaSets: of all areas, masks and cells every answer is as the document says. -/
import Derived.Test.YtmdhbbibghpijaaDoorAreaListM
import Derived.Test.YtmdhbbibghpijaaDoorAreaRef3
import Derived.Deep.CutRange
namespace Go.Proofs.YtmdhbbibghpijaaDoor
open Go.RowKit

section
variable {P : Program} {w : World}
theorem wpList_append_sz {ops : Array Oper} {rest : List Oper} {o : Oper} {a : Act} {Q : Exit → Act → World → Prop} (hgd : o.guard = none) (s x : Operand) (t : TypeId)
    (ho : o.op = .call { callee := .builtin .append, args := #[s, x], argTypes := #[t, t] })
    (base : Nat) (e : TypeId) (i : TypeInfo) (z : Value) (size bytes : Nat) (ht : P.underlying t = some (.slice e)) (hi : P.info? e = some i) (hz : i.zero = some z)
    (hsize : i.size = size) (hby : i.bytes = bytes) (hzs : z.cells.size = size) (hsz : 0 < size)
    (v : Value) (n : Nat) (xs : List Value) (hs : a.eval s = v) (hown : w.ownsRow base e size v n xs)
    (ad : Addr) (m c : Nat) (news : List Value) (hx : a.eval x = .slice (some ad) m c) (hl : news.length = m * size) (hnews : ∀ j u, news[j]? = some u → w.cell? (ad.add j) = some u) (h1 : ∀ u ∈ news, u.oneCell' = true)
    (h63 : n + m ≤ maxLen) (hbytes : (n + m) * bytes ≤ 140737488355328) (hbase : base ≤ w.heap.size)
    (h : ∀ A' c' w', w'.ownsRow base e size (.slice A' (n + m) c') (n + m) (xs ++ news) → w.grownBy w' v.ownBlock → ((Value.slice A' (n + m) c').ownBlock = v.ownBlock ∨ (Value.slice A' (n + m) c').ownBlock = some w.heap.size) → wpList P ops Q rest (a.put o.dst (.slice A' (n + m) c')) w') :
    wpList P ops Q (o :: rest) a w := by
  refine wpList_plain hgd fun K hK => ?_
  obtain ⟨v', w', hr, h2, h3, _, h5⟩ := run_append_own_at (P := P) w base t o.type e i z size bytes ht hi hz hsize hby hzs hsz v n xs hown ad m c news hl hnews h1 h63 hbytes hbase
  obtain ⟨A', c', rfl⟩ : ∃ A' c', v' = .slice A' (n + m) c' := by
    rcases h2.2 with ⟨rfl, h0⟩ | ⟨g, cap, cur, rfl, _⟩
    · exact ⟨none, 0, by rw [h0]⟩
    · exact ⟨_, _, rfl⟩
  unfold Oper.wp execOp
  simp only [ho, resolve, invoke, builtin, Sem.run_bind, Sem.run_pure, Result.andThen_ok, List.map_toArray, List.map_cons, List.map_nil, hs, hx, hr]
  exact hK _ _ (h A' c' w' h2 h3 h5)
end
theorem ctFields : ∃ f0 f1 : Field, Tryd.prog.underlying 39 = some (.struct #[f0, f1]) ∧ f0.offset = 0 ∧ f1.offset = 1 ∧ f0.type = 3 ∧ f1.type = 37 ∧ (f0.name != "_") = true ∧ (f1.name != "_") = true :=
  ⟨_, _, Tryd.underlying39, by kernel_rfl, by kernel_rfl, by kernel_rfl, by kernel_rfl, by kernel_rfl, by kernel_rfl⟩
theorem equal_s9 (p q : Int) (w : World) : (Op.equalIn 9999 37 (.agg #[.int .u32 p, .int .u32 q]) (.agg #[.int .u32 p, .int .u32 q])).run Tryd.prog w = .ok true w := by
  have h := run_equalIn_struct (P := Tryd.prog) w 9998 37 #[.int .u32 p, .int .u32 q] #[.int .u32 p, .int .u32 q] (by kernel_rfl) (by kernel_rfl)
  rw [h]
  obtain ⟨f0, f1, e, o0, o1, t0, t1, n0, n1⟩ := spFields
  have e2 : (Tryd.prog.fieldsOf 37).toList = [f0, f1] := by simp [Program.fieldsOf, e]
  rw [e2]
  simp [Op.eqFields, o0, o1, t0, t1, bne_iff_ne.1 n0, bne_iff_ne.1 n1, go_sem]
theorem equal_ct (i p q : Int) (w : World) : (Op.equalIn 10000 39 (.agg #[.int .i64 i, .int .u32 p, .int .u32 q]) (.agg #[.int .i64 i, .int .u32 p, .int .u32 q])).run Tryd.prog w = .ok true w := by
  have h := run_equalIn_struct (P := Tryd.prog) w 9999 39 #[.int .i64 i, .int .u32 p, .int .u32 q] #[.int .i64 i, .int .u32 p, .int .u32 q] (by kernel_rfl) (by kernel_rfl)
  rw [h]
  obtain ⟨f0, f1, e, o0, o1, t0, t1, n0, n1⟩ := ctFields
  have e2 : (Tryd.prog.fieldsOf 39).toList = [f0, f1] := by simp [Program.fieldsOf, e]
  rw [e2]
  simp [Op.eqFields, o0, o1, t0, t1, bne_iff_ne.1 n0, bne_iff_ne.1 n1, go_sem, equal_s9]
theorem cell_newE (w : World) (lb k : Int) : ∀ X, Keep (w.alloc (.cells #[.int .i64 lb, .int .u32 k] 25)) X → X.cell? ⟨w.heap.size, 0, none⟩ = some (.int .i64 lb) ∧ X.cell? ⟨w.heap.size, 1, none⟩ = some (.int .u32 k) := by
  have hb := World.alloc_heap_new w (.cells #[.int .i64 lb, .int .u32 k] 25)
  have hlt : w.heap.size < (w.alloc (.cells #[.int .i64 lb, .int .u32 k] 25)).heap.size := by simp
  generalize w.alloc (.cells #[.int .i64 lb, .int .u32 k] 25) = W at *
  intro X hX
  have := (hX.block _ hlt).trans hb
  exact ⟨by simp [World.cell?, this], by simp [World.cell?, this]⟩
theorem ask_or {f g : Nat → Int → Bool} (hf : ∀ i k, f i k = true → keyB k = true) (hg : ∀ i k, g i k = true → keyB k = true) (i : Nat) (k : Int) : askF 0 f g i k = (f i k || g i k) := by
  have h1 := hf i k
  have h2 := hg i k
  unfold askF asked
  cases h3 : f i k <;> cases h4 : g i k <;> simp_all
theorem ask_and {f g : Nat → Int → Bool} (hf : ∀ i k, f i k = true → keyB k = true) (i : Nat) (k : Int) : askF 1 f g i k = (f i k && g i k) := by
  have h1 := hf i k
  unfold askF asked
  cases h3 : f i k <;> cases h4 : g i k <;> simp_all
theorem ask_less {f g : Nat → Int → Bool} (hf : ∀ i k, f i k = true → keyB k = true) (i : Nat) (k : Int) : askF 2 f g i k = (f i k && !g i k) := by
  have h1 := hf i k
  unfold askF asked
  cases h3 : f i k <;> cases h4 : g i k <;> simp_all
theorem AreaS.congr {base : Nat} {w : World} {A : Option Addr} {n N : Nat} {f g : Nat → Int → Bool} (h : AreaS base w A n N f) (e : ∀ i k, f i k = g i k) : AreaS base w A n N g := by
  have : f = g := funext fun i => funext fun k => e i k
  rwa [← this]
theorem RAT_o {w : World} {A : Option Addr} {n c N : Nat} {f : Nat → Int → Bool} (i : Int) (h : Area w A n N f) :
    Calls Tryd.prog 16 #[.slice A n c, .int .i64 i] w fun e w' => ∃ a l c, e = .returned (.slice a l c) ∧ Keep w w' ∧ Bg w' a l c (fz f i) ∧ l ≤ N := by
  refine (rat_any i h (Keep.refl w)).mono ?_
  rintro e w' ⟨a, l, c, rfl, hg, hl, rfl⟩
  exact ⟨a, l, c, rfl, Keep.refl _, hg, hl⟩
/-- all, as far as it is made, in a row of its own. -/
def AllI (base : Nat) (xs : List (Int × Sp)) (v m : Value) (w0 W : World) : Prop := ∃ A n c, v = .slice A n c ∧ n = xs.length ∧ W.ownsRow base 39 3 (.slice A n c) n (cls xs) ∧ m = .int .u32 (mkN xs : Nat) ∧ Keep w0 W

theorem and_15E (m : Int) : bits BinOp.and IntKind.i64 m 15 = (((m % 16).toNat : Nat) : Int) := by
  have e1 : (BitVec.ofInt 64 m &&& BitVec.ofInt 64 15).toNat = (m % 18446744073709551616).toNat % 2 ^ 4 := by
    rw [BitVec.toNat_and, BitVec.toNat_ofInt, BitVec.toNat_ofInt, ← Nat.and_two_pow_sub_one_eq_mod]
    rfl
  show IntKind.i64.wrap ((BitVec.ofInt 64 m &&& BitVec.ofInt 64 15).toNat : Int) = _
  rw [e1, IntKind.wrap_i64]
  omega
theorem list_len {w : World} {A : Option Addr} {na ca N : Nat} {f : Nat → Int → Bool} {R : Nat → List Sp} (hA : Area w A na N f) (hR : ∀ i, i < na → IsSet (R i) (fun k => f i k = true)) (hl : na ≤ 1000) (hN : N ≤ 40000) (hc : (cellsL R na).length ≤ 1000000) (m : Nat) {K : Nat} (hm2 : m ≤ 9223372036854775807) (hK : min m (cellsL R na).length = K) :
    Calls Tryd.prog 19 #[.slice A na ca, .int .i64 m] w fun e w' => ∃ A c, e = .returned (.slice A K c) ∧ Keep w w' := by
  by_cases h0 : m = 0
  · subst h0
    obtain rfl : K = 0 := by omega
    refine (list_zero A na ca ((0 : Nat) : Int) (by omega) w).mono ?_
    rintro e w' ⟨A', c', rfl, -, hk⟩
    exact ⟨A', c', rfl, hk⟩
  · refine (list_some hA hR hl hN hc m (by omega) hm2).mono ?_
    rintro e w' ⟨A', c', rfl, -, hk⟩
    exact ⟨A', c', by rw [List.length_take, hK], hk⟩
theorem mask_cells {R : Nat → List Sp} {n : Nat} {f : Nat → Int → Bool} (hR : ∀ i, i < n → IsSet (R i) (fun k => f i k = true)) (ho : ∀ i, n ≤ i → ∀ k, f i k = false) (hn : n ≤ 32) : MaskOf f (mkN (cellsL R n)) := by
  have hlt : ∀ x ∈ cellsL R n, 0 ≤ x.1 ∧ x.1.toNat < 32 := fun x hx => by
    obtain ⟨i, hi, h1, _⟩ := mem_cellsL.1 hx
    omega
  refine ⟨mkN_lt (fun x hx => (hlt x hx).2), fun i => ?_⟩
  rw [mkN_test, List.any_eq_true]
  constructor
  · rintro ⟨x, hx, h1⟩
    obtain ⟨j, hj, h2, h3⟩ := mem_cellsL.1 hx
    have hij : i = j := by simp at h1; omega
    subst hij
    exact ⟨by omega, (set_some (hR i hj)).1 ⟨_, h3⟩⟩
  · rintro ⟨h1, k, hk⟩
    have hi : i < n := by
      by_cases hn : i < n
      · exact hn
      · rw [ho i (by omega) k] at hk; cases hk
    obtain ⟨s, hs⟩ := (set_some (hR i hi)).2 ⟨k, hk⟩
    exact ⟨((i : Int), s), mem_cellsL.2 ⟨i, hi, rfl, hs⟩, by simp⟩
theorem rhas_cv {w : World} {A : Option Addr} {na ca N : Nat} {f : Nat → Int → Bool} (lb k : Int) (v : Bool) (hA : Area w A na N f) (hN : N ≤ 20000) (hk : 0 ≤ k ∧ k ≤ 4294967295) (hv : fz f lb k = v) :
    Calls Tryd.prog 21 #[.slice A na ca, .agg #[.int .i64 lb, .int .u32 k]] w fun e w' => e = .returned (.bool v) ∧ Keep w w' := hv ▸ rhas_c lb k hA hN hk
theorem cls_get : ∀ (xs : List (Int × Sp)) (j : Nat) (x : Int × Sp), xs[j]? = some x → (cls xs)[j * 3]? = some (.int .i64 x.1) ∧ (cls xs)[j * 3 + 1]? = some (.int .u32 x.2.lo) ∧ (cls xs)[j * 3 + 2]? = some (.int .u32 x.2.hi)
  | [], j, x, h => by simp at h
  | y :: xs, 0, x, h => by
    simp at h
    subst h
    simp [cls, clc]
  | y :: xs, j + 1, x, h => by
    have ih := cls_get xs j x (by simpa using h)
    have e : cls (y :: xs) = clc y ++ cls xs := by simp [cls]
    have hl : (clc y).length = 3 := rfl
    rw [e, show (j + 1) * 3 = 3 + j * 3 by omega, show 3 + j * 3 + 1 = 3 + (j * 3 + 1) by omega, show 3 + j * 3 + 2 = 3 + (j * 3 + 2) by omega]
    rw [List.getElem?_append_right (by omega), List.getElem?_append_right (by omega), List.getElem?_append_right (by omega), hl]
    simpa using ih
theorem cls_length : ∀ xs : List (Int × Sp), (cls xs).length = xs.length * 3
  | [] => rfl
  | x :: xs => by
    have e : cls (x :: xs) = clc x ++ cls xs := by simp [cls]
    rw [e, List.length_append, cls_length xs, List.length_cons]
    have hl : (clc x).length = 3 := rfl
    omega
theorem row3_cells {w : World} {base n c : Nat} {A : Option Addr} {xs : List (Int × Sp)} (h : w.ownsRow base 39 3 (.slice A n c) n (cls xs)) {j : Nat} {x : Int × Sp} (hx : xs[j]? = some x) :
    ∃ g, A = some ⟨g, 0, none⟩ ∧ g < w.heap.size ∧ w.cell? ⟨g, j * 3, none⟩ = some (.int .i64 x.1) ∧ w.cell? ⟨g, j * 3 + 1, none⟩ = some (.int .u32 x.2.lo) ∧ w.cell? ⟨g, j * 3 + 2, none⟩ = some (.int .u32 x.2.hi) := by
  have hj := (List.getElem?_eq_some_iff.1 hx).1
  have hn : xs.length = n := by have := h.1; rw [cls_length] at this; omega
  rcases h.2 with ⟨_, h0⟩ | ⟨g, cap, cur, e, hb, hblk, h1, h2, h3, h4⟩
  · omega
  · cases e
    obtain ⟨p0, p1, p2⟩ := cls_get xs j x hx
    have h4' : cur.toList.take (n * 3) = cls xs := h4
    have get : ∀ q, q < n * 3 → (cls xs)[q]? = cur[q]? := fun q hq => by rw [← h4', List.getElem?_take, if_pos hq, Array.getElem?_toList]
    refine ⟨g, rfl, (Array.getElem?_eq_some_iff.1 hblk).1, ?_, ?_, ?_⟩
    · rw [← p0, get _ (by omega)]; simp [World.cell?, hblk]
    · rw [← p1, get _ (by omega)]; simp [World.cell?, hblk]
    · rw [← p2, get _ (by omega)]; simp [World.cell?, hblk]
theorem cellsL_snoc {R : Nat → List Sp} (q : Nat) {j : Nat} {s : Sp} (h : (R q)[j]? = some s) : cellsL R q ++ ((R q).take (j + 1)).map (fun s => ((q : Int), s)) = cellsL R q ++ ((R q).take j).map (fun s => ((q : Int), s)) ++ [((q : Int), s)] := by
  rw [List.take_add_one, h, Option.toList_some, List.map_append, List.append_assoc]
  rfl
theorem cellsL_part {R : Nat → List Sp} {q n j : Nat} (h : q < n) : (cellsL R q ++ ((R q).take j).map (fun s => ((q : Int), s))).length ≤ (cellsL R n).length :=
  (part_prefix R h).length_le
theorem allI_next {xs ys : List (Int × Sp)} {x : Int × Sp} {A : Option Addr} {n c : Nat} {w0 wr w6 : World} {o1 o2 : Obj} {A6 : Option Addr} {c6 : Nat} (e : ys = xs ++ [x]) (hn : n = xs.length) (hk : Keep w0 wr) (ho : wr.ownsRow w0.heap.size 39 3 (.slice A n c) n (cls xs))
    (hg : ((wr.alloc o1).alloc o2).grownBy w6 (Value.slice A n c).ownBlock) (h6 : w6.ownsRow w0.heap.size 39 3 (.slice A6 (n + 1) c6) (n + 1) (cls xs ++ clc x)) : ∀ M : Nat, mkN (xs ++ [x]) = M → AllI w0.heap.size ys (.slice A6 (n + 1) c6) (.int .u32 (M : Int)) w0 w6 := by
  intro M hM
  subst e
  refine ⟨A6, n + 1, c6, rfl, by simp [hn], ?_, by rw [hM], ?_⟩
  · have e2 : cls (xs ++ [x]) = cls xs ++ clc x := by simp [cls]
    rw [e2]
    exact h6
  · have hS := (Only.refl (fun k => (Value.slice A n c).ownBlock = some k) _).grown hg (fun k _ e => e)
    exact Only.keep ((hk.alloc o1).alloc o2) hS (fun k h => (ho.lt k h).1)
theorem allI_stay {base : Nat} {xs : List (Int × Sp)} {A : Option Addr} {n c : Nat} {w2 wr w6 : World} {o1 o2 : Obj} (hs : SpStay w2 wr) (ho : wr.ownsRow base 39 3 (.slice A n c) n (cls xs)) (hg : ((wr.alloc o1).alloc o2).grownBy w6 (Value.slice A n c).ownBlock) : SpStay w2 w6 := by
  have k1 : Keep wr ((wr.alloc o1).alloc o2) := ((Keep.refl wr).alloc o1).alloc o2
  have hS := (Only.refl (fun k => (Value.slice A n c).ownBlock = some k) _).grown hg (fun k _ e => e)
  refine (hs.trans (spStay_of_keep k1)).trans (spStay_of_only hS (fun k cur z hk hc => ?_))
  obtain ⟨cur', h'⟩ := own_heap3 ((ho.alloc o1).alloc o2) hk
  rw [h'] at hc
  cases hc
set_option maxRecDepth 100000 in
set_option maxHeartbeats 16000000 in
theorem areas_few {w : World} {A B : Option Addr} {na ca nb cb m : Nat} {za zb : List (List Sp)} {n lb key most : Int} (ra : AArg w A na ca za) (rb : AArg w B nb cb zb) (ea : fewB za = true) (eb : fewB zb = true) (hm : m < 4294967296) (hkey : 0 ≤ key ∧ key ≤ 4294967295) (hT : Tab w) :
    Calls Tryd.prog 3 #[.slice A na ca, .slice B nb cb, .int .i64 n, .int .u32 m, .agg #[.int .i64 lb, .int .u32 key], .int .i64 most] w fun e w' => e = .returned (.bool true) ∧ Keep w w' := by
  obtain ⟨i0, hi, hz0, hz1, hz2⟩ := info_parts infoCt
  have la : na ≤ 20 := by rw [← ra.2.2.2.1]; exact (fewB_yes ea).2
  have lb20 : nb ≤ 20 := by rw [← rb.2.2.2.1]; exact (fewB_yes eb).2
  have hca := ra.2.1
  have hE := Lib.hid (And.intro ea eb)
  obtain ⟨K, hK⟩ : ∃ K : Nat, (K : Int) = min (max n 0) 16 := ⟨(min (max n 0) 16).toNat, by omega⟩
  have hK2 : (K : Int) = max (min n 16) 0 := by omega
  have hK16 : K ≤ 16 := by omega
  have HKK := Lib.hid (And.intro hK hK2)
  have HM := Lib.hid hm
  have HKEY := Lib.hid hkey
  have fa := ra.area (fewB_yes ea).1
  obtain ⟨R, hR⟩ := area_sets_le fa (by decide)
  have hlen := cellsL_length (R := R) (N := 20) (n := na) (fun i hi => (hR i hi).2)
  have HL := Lib.hid (show (cellsL R na).length ≤ 400 by omega)
  have HR := Lib.hid (fun i hi => (hR i hi).1)
  have HR20 := Lib.hid (fun i hi => (hR i hi).2)
  have k0 := (Keep.refl w).alloc (.cells #[.int .i64 lb, .int .u32 key] 25)
  have HC := Lib.hid (cell_newE w lb key)
  have Ha := Lib.hid (ra.keep k0)
  have Hb := Lib.hid (rb.keep k0)
  have HT := Lib.hid (hT.below hT.pos k0)
  have HK0 := Lib.hid k0
  have hKc := Keep.refl (w.alloc (.cells #[.int .i64 lb, .int .u32 key] 25))
  clear ra rb ea eb hT k0 fa hR hlen hm hK hK2 hkey
  go_enter Tryd.func3, Tryd.ntmps3
  go_wp2_with fail
  generalize w.alloc (.cells #[.int .i64 lb, .int .u32 key] 25) = W at *
  go_wp2_with fail
  go_at_call 8
  refine (alive_any _ HT.out).mono ?_
  rintro e w101 ⟨rfl, hk⟩
  replace HT := Lib.hid (HT.out.below HT.out.pos hk)
  replace Ha := Lib.hid (Ha.out.keep hk)
  replace Hb := Lib.hid (Hb.out.keep hk)
  replace hKc := hKc.trans hk
  clear hk
  go_wp2_with fail
  go_at_call 9
  refine (few_a Ha.out).mono ?_
  rintro e wfa ⟨rfl, rfl⟩
  rw [hE.out.1]
  go_wp2_with fail
  go_at_call 9
  refine (few_a Hb.out).mono ?_
  rintro e wfb ⟨rfl, rfl⟩
  rw [hE.out.2]
  replace Ha := Lib.hid (Ha.out.area (fewB_yes hE.out.1).1)
  replace Hb := Lib.hid (Hb.out.area (fewB_yes hE.out.2).1)
  have HKA := Lib.hid Ha.out.key
  have HKB := Lib.hid Hb.out.key
  obtain ⟨ab, hab⟩ : ∃ ab, max na nb = ab := ⟨_, rfl⟩
  have hab20 : ab ≤ 20 := by omega
  have HAB := Lib.hid hab
  clear hab
  go_wp2_with fail
  go_at_call 12
  refine (union_n ab HAB.out Ha.out Hb.out (by decide) (by decide) (by omega)).mono ?_
  rintro e w102 ⟨Ax, cx, rfl, hk, hx, hcx⟩
  replace HT := Lib.hid (HT.out.below HT.out.pos hk)
  replace Ha := Lib.hid (Ha.out.keep hk)
  replace Hb := Lib.hid (Hb.out.keep hk)
  replace hKc := hKc.trans hk
  clear hk
  have Hx := Lib.hid hx
  clear hx
  go_wp2_with fail
  go_at_call 10
  refine (rbuild_any ab 0 HAB.out Ha.out Hb.out (by decide) (by decide) (by omega) (by decide)).mono ?_
  rintro e w103 ⟨Ay, cy, rfl, hk, hy, hcy⟩
  replace HT := Lib.hid (HT.out.below HT.out.pos hk)
  replace Ha := Lib.hid (Ha.out.keep hk)
  replace Hb := Lib.hid (Hb.out.keep hk)
  replace Hx := Lib.hid (Hx.out.keep hk)
  replace hKc := hKc.trans hk
  clear hk
  have Hy := Lib.hid hy
  clear hy
  go_wp2_with fail
  go_at_call 11
  refine (alike_t Hx.out (Hy.out.congr (ask_or HKA.out HKB.out)) (by omega) (by decide) (by decide)).mono ?_
  rintro e w104 ⟨rfl, hk⟩
  replace HT := Lib.hid (HT.out.below HT.out.pos hk)
  replace Ha := Lib.hid (Ha.out.keep hk)
  replace Hb := Lib.hid (Hb.out.keep hk)
  replace Hx := Lib.hid (Hx.out.keep hk)
  replace Hy := Lib.hid (Hy.out.keep hk)
  replace hKc := hKc.trans hk
  clear hk
  clear Hx
  clear Hy
  go_wp2_with fail
  go_at_call 13
  refine (meet_n ab HAB.out Ha.out Hb.out (by decide) (by decide) (by omega)).mono ?_
  rintro e w105 ⟨Ax, cx, rfl, hk, hx, hcx⟩
  replace HT := Lib.hid (HT.out.below HT.out.pos hk)
  replace Ha := Lib.hid (Ha.out.keep hk)
  replace Hb := Lib.hid (Hb.out.keep hk)
  replace hKc := hKc.trans hk
  clear hk
  have Hx := Lib.hid hx
  clear hx
  go_wp2_with fail
  go_at_call 10
  refine (rbuild_any ab 1 HAB.out Ha.out Hb.out (by decide) (by decide) (by omega) (by decide)).mono ?_
  rintro e w106 ⟨Ay, cy, rfl, hk, hy, hcy⟩
  replace HT := Lib.hid (HT.out.below HT.out.pos hk)
  replace Ha := Lib.hid (Ha.out.keep hk)
  replace Hb := Lib.hid (Hb.out.keep hk)
  replace Hx := Lib.hid (Hx.out.keep hk)
  replace hKc := hKc.trans hk
  clear hk
  have Hy := Lib.hid hy
  clear hy
  go_wp2_with fail
  go_at_call 11
  refine (alike_t Hx.out (Hy.out.congr (ask_and HKA.out)) (by omega) (by decide) (by decide)).mono ?_
  rintro e w107 ⟨rfl, hk⟩
  replace HT := Lib.hid (HT.out.below HT.out.pos hk)
  replace Ha := Lib.hid (Ha.out.keep hk)
  replace Hb := Lib.hid (Hb.out.keep hk)
  replace Hx := Lib.hid (Hx.out.keep hk)
  replace Hy := Lib.hid (Hy.out.keep hk)
  replace hKc := hKc.trans hk
  clear hk
  clear Hx
  clear Hy
  go_wp2_with fail
  go_at_call 14
  refine (minus_n ab HAB.out Ha.out Hb.out (by decide) (by decide) (by omega)).mono ?_
  rintro e w108 ⟨Ax, cx, rfl, hk, hx, hcx⟩
  replace HT := Lib.hid (HT.out.below HT.out.pos hk)
  replace Ha := Lib.hid (Ha.out.keep hk)
  replace Hb := Lib.hid (Hb.out.keep hk)
  replace hKc := hKc.trans hk
  clear hk
  have Hx := Lib.hid hx
  clear hx
  go_wp2_with fail
  go_at_call 10
  refine (rbuild_any ab 2 HAB.out Ha.out Hb.out (by decide) (by decide) (by omega) (by decide)).mono ?_
  rintro e w109 ⟨Ay, cy, rfl, hk, hy, hcy⟩
  replace HT := Lib.hid (HT.out.below HT.out.pos hk)
  replace Ha := Lib.hid (Ha.out.keep hk)
  replace Hb := Lib.hid (Hb.out.keep hk)
  replace Hx := Lib.hid (Hx.out.keep hk)
  replace hKc := hKc.trans hk
  clear hk
  have Hy := Lib.hid hy
  clear hy
  go_wp2_with fail
  go_at_call 11
  refine (alike_t Hx.out (Hy.out.congr (ask_less HKA.out)) (by omega) (by decide) (by decide)).mono ?_
  rintro e w110 ⟨rfl, hk⟩
  replace HT := Lib.hid (HT.out.below HT.out.pos hk)
  replace Ha := Lib.hid (Ha.out.keep hk)
  replace Hb := Lib.hid (Hb.out.keep hk)
  replace Hx := Lib.hid (Hx.out.keep hk)
  replace Hy := Lib.hid (Hy.out.keep hk)
  replace hKc := hKc.trans hk
  clear hk
  clear Hx
  clear Hy
  go_wp2_with fail
  go_at_call 16
  refine (RAT_o 0 Ha.out).mono ?_
  rintro e w111 ⟨As, ns, cs, rfl, hk, hs, hls⟩
  replace HT := Lib.hid (HT.out.below HT.out.pos hk)
  replace Ha := Lib.hid (Ha.out.keep hk)
  replace Hb := Lib.hid (Hb.out.keep hk)
  replace hKc := hKc.trans hk
  clear hk
  have Hs := Lib.hid hs
  clear hs
  go_wp2_with fail
  go_at_call 15
  refine (of_a n m K Hs.out hls (by decide) HM.out HKK.out.1 HT.out).mono ?_
  rintro e wo ⟨Ax, rfl, hk, hx⟩
  replace HT := Lib.hid (HT.out.below HT.out.pos hk)
  replace Ha := Lib.hid (Ha.out.keep hk)
  replace Hb := Lib.hid (Hb.out.keep hk)
  replace Hs := Lib.hid (Hs.out.keep hk)
  replace hKc := hKc.trans hk
  clear hk
  have Hx := Lib.hid hx
  clear hx
  go_wp2_with fail
  go_at_call 16
  refine (RAT_o 0 Ha.out).mono ?_
  rintro e w112 ⟨At, nt, ct, rfl, hk, ht, hlt⟩
  replace HT := Lib.hid (HT.out.below HT.out.pos hk)
  replace Ha := Lib.hid (Ha.out.keep hk)
  replace Hb := Lib.hid (Hb.out.keep hk)
  replace Hs := Lib.hid (Hs.out.keep hk)
  replace Hx := Lib.hid (Hx.out.keep hk)
  replace hKc := hKc.trans hk
  clear hk
  have Ht := Lib.hid ht
  clear ht
  go_wp2_with fail
  go_at_call 17
  refine (rof_any n m K Ht.out (by omega) HM.out HKK.out.2).mono ?_
  rintro e w113 ⟨Ay, cy, rfl, hk, hy, hcy⟩
  replace HT := Lib.hid (HT.out.below HT.out.pos hk)
  replace Ha := Lib.hid (Ha.out.keep hk)
  replace Hb := Lib.hid (Hb.out.keep hk)
  replace Hs := Lib.hid (Hs.out.keep hk)
  replace Hx := Lib.hid (Hx.out.keep hk)
  replace Ht := Lib.hid (Ht.out.keep hk)
  replace hKc := hKc.trans hk
  clear hk
  have Hy := Lib.hid hy
  clear hy
  go_wp2_with fail
  go_at_call 11
  refine (alike_t Hx.out Hy.out (by omega) (by decide) (by omega)).mono ?_
  rintro e w114 ⟨rfl, hk⟩
  replace HT := Lib.hid (HT.out.below HT.out.pos hk)
  replace Ha := Lib.hid (Ha.out.keep hk)
  replace Hb := Lib.hid (Hb.out.keep hk)
  replace Hs := Lib.hid (Hs.out.keep hk)
  replace Hx := Lib.hid (Hx.out.keep hk)
  replace Ht := Lib.hid (Ht.out.keep hk)
  replace Hy := Lib.hid (Hy.out.keep hk)
  replace hKc := hKc.trans hk
  clear hk
  clear Hx
  clear Hy
  clear Hs
  clear Ht
  rename World => Z0
  have HAZ := Lib.hid Ha.out
  have HBZ := Lib.hid Hb.out
  have HTZ := Lib.hid HT.out
  have HKZ := Lib.hid hKc
  clear Ha Hb HT hKc HKK HM HKA HKB
  have h0 : AllI Z0.heap.size (cellsL R 0) (.slice (some ⟨Z0.heap.size, 0, none⟩) 0 0) (.int .u32 0) Z0 (Z0.alloc (.cells #[] 39)) :=
    ⟨_, 0, 0, rfl, by simp [cellsL], World.ownsRow_made (base := Z0.heap.size) (e := 39) (size := 3) Z0 #[] 0 (Nat.le_refl _) (Nat.zero_le _) rfl, by simp [cellsL, mkN], (Keep.refl _).alloc _⟩
  have H0 := Lib.hid h0
  clear h0
  have hnai : (na : Int) ≤ 20 := by omega
  go_upto_region 10 with fail
  generalize Z0.alloc (.cells #[] 39) = Z1 at *
  go_wp2_with fail
  go_loopw [14, 15, 80] (fun av mv iv wr => ∃ (q : Nat), iv = .int .i64 q ∧ q ≤ na ∧ Hid (AllI Z0.heap.size (cellsL R q) av mv Z0 wr)) (fun _ _ iv _ => na - (intOf iv).toNat)
  case atStart => exact ⟨0, rfl, Nat.zero_le _, H0⟩
  case round =>
    obtain ⟨q, rfl, hq, HI⟩ := hrel
    clear H0
    by_cases hlt : q < na
    · obtain ⟨A1, n1, c1, rfl, hn1, hown1, rfl, hk1⟩ := HI.out
      clear HI
      obtain ⟨b, off, a, l, c, e, hb, hc, ⟨zs, hz, hzq⟩, hl⟩ := HAZ.out.row q hlt
      subst e
      have c0 := (hk1.cell (p := ⟨b, off + q, none⟩) hb).trans hc
      have HZ := Lib.hid (make_ownr (hz.keep hk1) (by omega))
      have HZQ := Lib.hid hzq
      have HO1 := Lib.hid hown1
      have HK1 := Lib.hid hk1
      have HN1 := Lib.hid hn1
      have hqi : (q : Int) < (na : Int) := by omega
      clear hown1 hk1 hn1 hb hc hz hzq
      go_wp2_with fail
      go_at_call 18
      refine HZ.out.mono ?_
      rintro e w2 ⟨A2, n2, c2, ss, rfl, ho2, hs2, hl2, hk2⟩
      obtain rfl : ss = R q := hs2.unique (HR.out q hlt) (fun k => by rw [← hasB_iff, HZQ.out k])
      have HO2 := Lib.hid ho2
      have HLN := Lib.hid (own_prs ho2).1.len
      have hn2 : n2 ≤ 20 := by rw [← HLN.out]; exact HR20.out q hlt
      have hn2i : (n2 : Int) ≤ 20 := by omega
      have HST := Lib.hid (show AllI Z0.heap.size (cellsL R q ++ ((R q).take 0).map (fun s => ((q : Int), s))) (.slice A1 n1 c1) (.int .u32 (mkN (cellsL R q) : Nat)) Z0 w2 from by
        rw [List.take_zero, List.map_nil, List.append_nil]
        exact ⟨A1, n1, c1, rfl, HN1.out, ownsRow_only HO1.out (Only.of_keep (fun _ => False) hk2) (fun _ _ h => h), rfl, HK1.out.trans hk2⟩)
      have hq20 : q < 20 := by omega
      obtain ⟨P2, hP2⟩ : ∃ P2 : Nat, P2 = 2 ^ q := ⟨_, rfl⟩
      have hp : P2 < 4294967296 := by
        rw [hP2]
        exact Nat.lt_of_le_of_lt (Nat.pow_le_pow_right (by decide) (show q ≤ 20 by omega)) (by decide)
      have hsh : IntKind.u32.wrap ((2 : Int) ^ q) = (P2 : Int) := by
        rw [show ((2 : Int) ^ q) = ((2 ^ q : Nat) : Int) by simp, ← hP2, IntKind.wrap_u32]
        omega
      have HP := Lib.hid (And.intro hP2 hp)
      have hq0 : (0 : Int) ≤ (q : Int) := by omega
      clear ho2 hs2 hl2 hk2 HZ HZQ HO1 HK1 HN1 c0 hP2 hp
      go_wp2_with fail
      go_loopw [14, 15, 88] (fun av mv iv wr => ∃ (j : Nat), iv = .int .i64 j ∧ j ≤ n2 ∧ Hid (AllI Z0.heap.size (cellsL R q ++ ((R q).take j).map (fun s => ((q : Int), s))) av mv Z0 wr) ∧ Hid (SpStay w2 wr)) (fun _ _ iv _ => n2 - (intOf iv).toNat)
      case atStart => exact ⟨0, rfl, Nat.zero_le _, HST, Lib.hid (stays_sp.refl w2)⟩
      case round =>
        obtain ⟨j, rfl, hj, HI, HS⟩ := hrel
        clear HST
        by_cases hjl : j < n2
        · obtain ⟨A1, n1, c1, rfl, hn1, hown1, rfl, hk1⟩ := HI.out
          clear HI
          obtain ⟨s, hs⟩ : ∃ s, (R q)[j]? = some s := ⟨_, List.getElem?_eq_getElem (by rw [HLN.out]; exact hjl)⟩
          obtain ⟨b2, o2, e, hb2, d0, d1⟩ := SpS.cells (own_prs (HO2.out.stay HS.out)).1 j s hs
          subst e
          have hji : (j : Int) < (n2 : Int) := by omega
          have hsnoc := cellsL_snoc (R := R) q hs
          have hle := cellsL_part (R := R) (n := na) (j := j + 1) hlt
          have hnl : n1 + 1 ≤ 400 := by
            rw [hsnoc, List.length_append] at hle
            have h1 := HL.out
            simp only [List.length_singleton] at hle
            omega
          obtain ⟨xs, hxs⟩ : ∃ xs, xs = cellsL R q ++ ((R q).take j).map (fun s => ((q : Int), s)) := ⟨_, rfl⟩
          rw [← hxs] at hn1 hown1 hsnoc ⊢
          have hml : n1 + 1 ≤ maxLen := by unfold maxLen; omega
          have hlab : ∀ x ∈ xs, x.1.toNat < 32 := by
            intro x hx
            rw [hxs] at hx
            rcases List.mem_append.1 hx with g | g
            · obtain ⟨i, hi, e, -⟩ := mem_cellsL.1 g
              omega
            · obtain ⟨t, -, rfl⟩ := List.mem_map.1 g
              dsimp only
              omega
          have hor := u32_or (mkN xs) P2 (mkN_lt hlab) HP.out.2
          obtain ⟨M2, hM2⟩ : ∃ M2, M2 = mkN xs ||| P2 := ⟨_, rfl⟩
          rw [← hM2] at hor
          have HM2 := Lib.hid (show mkN (xs ++ [((q : Int), s)]) = M2 by rw [mkN_snoc, hM2, HP.out.1]; simp)
          have hnews := clc_news (wr.alloc (.cells #[.int .u32 s.lo, .int .u32 s.hi] 37)) ((q : Int), s)
          simp only [World.size_alloc] at hnews
          have HNEWS := Lib.hid hnews
          have HOWN := Lib.hid hown1
          have HK1 := Lib.hid hk1
          have HN1 := Lib.hid hn1
          have HSN := Lib.hid hsnoc
          have hsz : Z0.heap.size ≤ wr.heap.size := hk1.size
          have HSZ := Lib.hid hsz
          obtain ⟨M1, hM1⟩ : ∃ M1, M1 = mkN xs := ⟨_, rfl⟩
          rw [← hM1] at hor ⊢
          clear hs hn1 hown1 hk1 hsnoc hle hxs hlab hM2 hnews hsz hb2 hM1
          go_wp2_with (at_builtin; go_must (refine wpList_append_sz rfl _ _ 34 rfl Z0.heap.size 39 i0 (.agg #[.int .i64 0, .int .u32 0, .int .u32 0]) 3 16 Tryd.underlying34 hi hz0 hz1 hz2 rfl (by decide) _ n1 (cls xs) rfl ((HOWN.out.alloc _).alloc _) ⟨wr.heap.size + 1, 0, none⟩ 1 1 (clc ((q : Int), s)) rfl rfl HNEWS.out (fun u hu => by simp [clc] at hu; rcases hu with rfl | rfl | rfl <;> rfl) hml (by omega) (by have := HSZ.out; simp; omega) ?_); intro A6 c6 w6 hown6 hgrow6 hat6; have HI6 := Lib.hid (allI_next HSN.out HN1.out HK1.out HOWN.out hgrow6 hown6); have HS6 := Lib.hid (allI_stay HS.out HOWN.out hgrow6); clear hown6 hgrow6 hat6)
          go_roundw
          case rel => exact ⟨j + 1, by go_num, hjl, Lib.hid (HI6.out M2 HM2.out), HS6⟩
          case measure => simp [intOf]; omega
        · obtain rfl : j = n2 := by omega
          clear hjl
          have HE := Lib.hid (show AllI Z0.heap.size (cellsL R (q + 1)) _ _ Z0 wr by
            have h1 := HI.out
            have e : (R q).take j = R q := List.take_of_length_le (by rw [HLN.out]; exact Nat.le_refl _)
            rw [e] at h1
            rw [cellsL_succ]
            exact h1)
          clear HI
          go_wp2_with fail
          go_roundw
          case rel => exact ⟨q + 1, by go_num, hlt, HE⟩
          case measure => simp [intOf]; omega
    · obtain rfl : q = na := by omega
      clear hlt
      obtain ⟨A1, n1, c1, rfl, hn1, hown1, rfl, hk1⟩ := HI.out
      clear HI
      have HROW := Lib.hid hown1
      have HN1 := Lib.hid hn1
      have hn400 : n1 ≤ 400 := by rw [hn1]; exact HL.out
      have HA := Lib.hid (HAZ.out.keep hk1)
      have HB := Lib.hid (HBZ.out.keep hk1)
      have hKc := HKZ.out.trans hk1
      have HKC := Lib.hid hKc
      have HMK := Lib.hid (show MaskOf (arF za) (mkN (cellsL R q)) from mask_cells HR.out HAZ.out.out (by omega))
      obtain ⟨L, hL⟩ : ∃ L, L = cellsL R q := ⟨_, rfl⟩
      rw [← hL] at HROW HN1 HMK ⊢
      have HLD := Lib.hid hL
      obtain ⟨MM, hMM⟩ : ∃ MM, MM = mkN L := ⟨_, rfl⟩
      rw [← hMM] at HMK ⊢
      clear hown1 hn1 hk1 hL hMM hKc HAZ HBZ HTZ HKZ
      generalize hZ2 : wr = Z2 at *
      clear hZ2
      have hlc := list_some (ca := ca) HA.out HR.out (by omega) (by decide) (by have := HL.out; omega) 10000 (by decide) (by decide)
      rw [List.take_of_length_le (by have := HL.out; omega), ← HLD.out] at hlc
      have HLC := Lib.hid hlc
      clear hlc
      go_wp2_with fail
      go_at_call 19
      refine HLC.out.mono ?_
      rintro e w5 ⟨Al, cl, rfl, hrow, hk⟩
      rw [← HN1.out] at hrow ⊢
      have HROW5 := Lib.hid (ownsRow_only HROW.out (Only.of_keep (fun _ => False) hk) (fun _ _ h => h))
      replace HA := Lib.hid (HA.out.keep hk)
      replace HB := Lib.hid (HB.out.keep hk)
      replace HKC := Lib.hid (HKC.out.trans hk)
      have HLROW := Lib.hid hrow
      clear hrow hk HROW HLC
      obtain ⟨r, hr, hr15⟩ : ∃ r : Nat, bits BinOp.and IntKind.i64 most 15 = (r : Int) ∧ r ≤ 15 := ⟨_, and_15E most, by omega⟩
      obtain ⟨K2, hK2⟩ : ∃ K2 : Nat, K2 = min r n1 := ⟨_, rfl⟩
      have hmin : min (r : Int) (n1 : Int) = (K2 : Int) := by omega
      have HCR := Lib.hid (list_len (ca := ca) HA.out HR.out (by omega) (by decide) (by have := HL.out; omega) r (by omega) (show min r (cellsL R q).length = K2 by rw [← HLD.out, ← HN1.out, hK2]))
      clear hK2
      go_wp2_with fail
      go_at_call 19
      refine HCR.out.mono ?_
      rintro e w6 ⟨Ar, cr, rfl, hk⟩
      have HROW6 := Lib.hid (ownsRow_only HROW5.out (Only.of_keep (fun _ => False) hk) (fun _ _ h => h))
      have HLROW6 := Lib.hid (ownsRow_only HLROW.out (Only.of_keep (fun _ => False) hk) (fun _ _ h => h))
      replace HA := Lib.hid (HA.out.keep hk)
      replace HB := Lib.hid (HB.out.keep hk)
      replace HKC := Lib.hid (HKC.out.trans hk)
      clear hk HROW5 HLROW HCR
      have hn1i : (n1 : Int) ≤ 400 := by omega
      go_wp2_with fail
      go_loopw [126] (fun iv wr => ∃ (j : Nat), iv = .int .i64 j ∧ j ≤ n1 ∧ Hid (Keep w6 wr)) (fun iv _ => n1 - (intOf iv).toNat)
      case atStart => exact ⟨0, rfl, Nat.zero_le _, Lib.hid (Keep.refl _)⟩
      case round =>
        obtain ⟨j, rfl, hj, HK⟩ := hrel
        by_cases hlt : j < n1
        · obtain ⟨x, hx⟩ : ∃ x, L[j]? = some x := ⟨_, List.getElem?_eq_getElem (by rw [← HN1.out]; exact hlt)⟩
          obtain ⟨g, e, hg, d0, d1, d2⟩ := row3_cells (ownsRow_only HROW6.out (Only.of_keep (fun _ => False) HK.out) (fun _ _ h => h)) hx
          subst e
          obtain ⟨g', e, hg', d0', d1', d2'⟩ := row3_cells (ownsRow_only HLROW6.out (Only.of_keep (fun _ => False) HK.out) (fun _ _ h => h)) hx
          subst e
          have hji : (j : Int) < (n1 : Int) := by omega
          have qe := equal_ct x.1 x.2.lo x.2.hi
          clear hx hg hg'
          go_wp2_with fail
          go_quiet (fail)
          have HK' := Lib.hid (HK.out.trans ((Keep.refl wr).drewN nq))
          clear d0 d1 d2 d0' d1' d2' qe HK
          go_wp2_with fail
          go_roundw
          case rel => exact ⟨j + 1, by go_num, hlt, HK'⟩
          case measure => simp [intOf]; omega
        · obtain rfl : j = n1 := by omega
          clear hlt
          replace HA := Lib.hid (HA.out.keep HK.out)
          replace HB := Lib.hid (HB.out.keep HK.out)
          replace HKC := Lib.hid (HKC.out.trans HK.out)
          clear HROW6 HLROW6 HK
          obtain ⟨vh, hvh⟩ : ∃ v, fz (arF za) lb key = v := ⟨_, rfl⟩
          obtain ⟨vw, hvw⟩ := tells_is (sub (arF za) (arF zb))
          obtain ⟨vs, hvs⟩ := tells_is (∀ i k, arF za i k = arF zb i k)
          obtain ⟨ve, hve⟩ := tells_is (∀ i k, arF za i k = false)
          have HV := Lib.hid (And.intro hvh (And.intro hvw (And.intro hvs hve)))
          have HSUB := Lib.hid (show vw = true ↔ ∀ i k, askF 2 (arF za) (arF zb) i k = false by
            have h := hvw.iff
            unfold sub at h
            rw [h]
            exact (ask_none HA.out.key).symm)
          clear hvh hvw hvs hve
          go_upto_region 29 with fail
          generalize hV : wr = V at *
          clear hV
          have HBOX := Lib.hid (show ∀ X, Keep V X → X.cell? ⟨w.heap.size, 0, none⟩ = some (.int .i64 lb) ∧ X.cell? ⟨w.heap.size, 1, none⟩ = some (.int .u32 key) from fun X hX => HC.out X (HKC.out.trans hX))
          have hKc := (Keep.refl V).drew
          refine seq_region (S := fun w' => Keep V w') [⟨0, 1, 696898287454081973172991196020261297061888⟩, ⟨0, 1024, 1393796574908163946345982392040522594123776⟩, ⟨3, 2090694862362245919518973588060783891185664, 2787593149816327892691964784081045188247552⟩, ⟨0, 1, 5575186299632655785383929568162090376495104⟩, ⟨0, 1024, 11150372599265311570767859136324180752990208⟩, ⟨28, 16725558898897967356151788704486271129485312, 22300745198530623141535718272648361505980416⟩, ⟨36, 25088338348346951034227683056729406694227968, 44601490397061246283071436545296723011960832⟩, ⟨96, 44601490397061246283071436545296723011960832, 89202980794122492566142873090593446023921664⟩, ⟨128, 89202980794122492566142873090593446023921665, 178405961588244985132285746181186892047843328⟩, ⟨128, 89202980794122492566142873090593446023921666, 356811923176489970264571492362373784095686656⟩, ⟨896, 624420865558857447963000111634154122167451648, 713623846352979940529142984724747568191373312⟩, ⟨128, 89202980794122492566142873090593446023929856, 1427247692705959881058285969449495136382746624⟩, ⟨128, 89202980794122492566142873090593446023921665, 2854495385411919762116571938898990272765493248⟩, ⟨128, 89202980794122492566142873090593446023921666, 5708990770823839524233143877797980545530986496⟩, ⟨15488, 10079936829735841659974144659237059400703148032, 11417981541647679048466287755595961091061972992⟩, ⟨16512, 11507184522441801541032430628686554537085894656, 22835963083295358096932575511191922182123945984⟩, ⟨33920, 23638789910442460530027861369007263196339240960, 45671926166590716193865151022383844364247891968⟩, ⟨65664, 45761129147384838686431293895474437810271813632, 91343852333181432387730302044767688728495783936⟩, ⟨163840, 91343852333181432387730302044767688728495783936, 182687704666362864775460604089535377456991567872⟩, ⟨262144, 182687704666362864775460604089535377456991567873, 365375409332725729550921208179070754913983135744⟩, ⟨262144, 182687704666362864775460604089535377456991567874, 730750818665451459101842416358141509827966271488⟩, ⟨1835008, 1278813932664540053428224228626747642198940975104, 1461501637330902918203684832716283019655932542976⟩, ⟨262144, 182687704666362864775460604089535377456991567873, 2923003274661805836407369665432566039311865085952⟩, ⟨262144, 182687704666362864775460604089535377456991567874, 5846006549323611672814739330865132078623730171904⟩, ⟨14942208, 8951697528651780373997569600387233495392586825728, 11692013098647223345629478661730264157247460343808⟩, ⟨19136512, 13336202440644489128608624098536082554360384454656, 23384026197294446691258957323460528314494920687616⟩, ⟨33816576, 23566713901960809556034417927550063691951912255488, 46768052394588893382517914646921056628989841375232⟩, ⟨83886080, 46768052394588893382517914646921056628989841375232, 93536104789177786765035829293842113257979682750464⟩, ⟨134217728, 93536104789177786765035829293842113257979682750465, 187072209578355573530071658587684226515959365500928⟩, ⟨402653184, 280608314367533360295107487881526339773939048251392, 374144419156711147060143317175368453031918731001856⟩, ⟨134217728, 93536104789177786765035829293842113257979682750465, 748288838313422294120286634350736906063837462003712⟩, ⟨1744830464, 841824943102600080885322463644579019321817144754176, 1496577676626844588240573268701473812127674924007424⟩, ⟨2818572288, 1964258200572733522065752415170684378417573337759744, 2993155353253689176481146537402947624255349848014848⟩, ⟨4429185024, 3086691458042866963246182366696789737513329530765312, 5986310706507378352962293074805895248510699696029696⟩, ⟨10737418240, 5986310706507378352962293074805895248510699696029696, 11972621413014756705924586149611790497021399392059392⟩, ⟨17179869184, 11972621413014756705924586149611790497021399392059393, 23945242826029513411849172299223580994042798784118784⟩, ⟨51539607552, 35917864239044270117773758448835371491064198176178176, 47890485652059026823698344598447161988085597568237568⟩, ⟨17179869184, 11972621413014756705924586149611790497021399392092160, 95780971304118053647396689196894323976171195136475136⟩, ⟨223338299392, 155644078369191837177019619944953276461278192096772096, 191561942608236107294793378393788647952342390272950272⟩, ⟨292057776128, 203534564021250864000717964543400438449363789665009664, 383123885216472214589586756787577295904684780545900544⟩, ⟨1099511627775, 383123885216472214589586756787577295904684780545900544, 4096⟩] [(0, false), (1, false), (3, false), (4, false), (2, true), (5, true), (6, false), (7, false), (8, false), (9, false), (11, false), (12, false), (13, false), (10, true), (14, true), (15, true), (16, false), (17, false), (18, false), (19, false), (20, false), (22, false), (23, false), (21, true), (24, true), (25, false), (26, false), (27, false), (28, false), (30, false), (29, true), (31, true), (32, false), (33, false), (34, false), (35, false), (37, false), (36, true), (38, false), (39, false), (40, false)] rfl (by kernel_rfl) (by kernel_rfl) (fun _ _ d _ _ h => by cases d <;> exact h) hKc ?_
          simp only [rowsOf, rowAt, gslot, List.map_cons, List.map_nil, List.getElem?_toArray, List.getElem?_cons_zero, List.getElem?_cons_succ]
          repeat (first
            | (refine seq_take (v := ?_) (a' := ?_) (by rfl) ?_ ?_ ?_
               rotate_left 2
               · (intro w hSw; have hcs := HBOX.out w hSw; clear hSw; go_split_ands; go_simp; with_reducible rfl)
               · (simp only [Act.put, List.setIfInBounds_toArray, List.set_cons_zero, List.set_cons_succ]; with_reducible rfl))
            | (refine seq_skip (a' := ?_) hKc (by rfl) ?_ ?_
               rotate_left
               · (simp only [Act.put, List.setIfInBounds_toArray, List.set_cons_zero, List.set_cons_succ]; with_reducible rfl)))
          refine seq_callR (R := fun _ => True) (f := 20) (args := ?_) (v := ?_) (a' := ?_) (by rfl) (by rfl) (by rfl) Tryd.call20 ?_ ?_ ?_ ?_
          rotate_left 3
          · (go_simp; with_reducible rfl)
          · ((with_reducible refine Calls.mono (has_v lb key vh (HA.out.keep hKc) (by decide) HV.out.1) ?_)
             rintro e w' ⟨rfl, hk⟩
             refine ⟨?_, hKc.trans hk, trivial⟩
             with_reducible rfl)
          · (simp only [Act.put, List.setIfInBounds_toArray, List.set_cons_zero, List.set_cons_succ]; with_reducible rfl)
          clear hKc
          intro wn hKc _
          repeat (first
            | (refine seq_take (v := ?_) (a' := ?_) (by rfl) ?_ ?_ ?_
               rotate_left 2
               · (intro w hSw; have hcs := HBOX.out w hSw; clear hSw; go_split_ands; go_simp; with_reducible rfl)
               · (simp only [Act.put, List.setIfInBounds_toArray, List.set_cons_zero, List.set_cons_succ]; with_reducible rfl))
            | (refine seq_skip (a' := ?_) hKc (by rfl) ?_ ?_
               rotate_left
               · (simp only [Act.put, List.setIfInBounds_toArray, List.set_cons_zero, List.set_cons_succ]; with_reducible rfl)))
          refine seq_callR (R := fun _ => True) (f := 21) (args := ?_) (v := ?_) (a' := ?_) (by rfl) (by rfl) (by rfl) Tryd.call21 ?_ ?_ ?_ ?_
          rotate_left 3
          · (go_simp; with_reducible rfl)
          · ((with_reducible refine Calls.mono (rhas_cv lb key vh (HA.out.keep hKc) (by decide) HKEY.out HV.out.1) ?_)
             rintro e w' ⟨rfl, hk⟩
             refine ⟨?_, hKc.trans hk, trivial⟩
             with_reducible rfl)
          · (simp only [Act.put, List.setIfInBounds_toArray, List.set_cons_zero, List.set_cons_succ]; with_reducible rfl)
          clear hKc
          intro wn hKc _
          repeat (first
            | (refine seq_take (v := ?_) (a' := ?_) (by rfl) ?_ ?_ ?_
               rotate_left 2
               · (intro w hSw; have hcs := HBOX.out w hSw; clear hSw; go_split_ands; go_simp; with_reducible rfl)
               · (simp only [Act.put, List.setIfInBounds_toArray, List.set_cons_zero, List.set_cons_succ]; with_reducible rfl))
            | (refine seq_skip (a' := ?_) hKc (by rfl) ?_ ?_
               rotate_left
               · (simp only [Act.put, List.setIfInBounds_toArray, List.set_cons_zero, List.set_cons_succ]; with_reducible rfl)))
          refine seq_callR (R := fun _ => True) (f := 22) (args := ?_) (v := ?_) (a' := ?_) (by rfl) (by rfl) (by rfl) Tryd.call22 ?_ ?_ ?_ ?_
          rotate_left 3
          · (go_simp; with_reducible rfl)
          · ((with_reducible refine Calls.mono (within_a vw (HA.out.keep hKc) (HB.out.keep hKc) (by decide) (by decide) (by omega) HV.out.2.1.iff) ?_)
             rintro e w' ⟨rfl, hk⟩
             refine ⟨?_, hKc.trans hk, trivial⟩
             with_reducible rfl)
          · (simp only [Act.put, List.setIfInBounds_toArray, List.set_cons_zero, List.set_cons_succ]; with_reducible rfl)
          clear hKc
          intro wn hKc _
          repeat (first
            | (refine seq_take (v := ?_) (a' := ?_) (by rfl) ?_ ?_ ?_
               rotate_left 2
               · (intro w hSw; have hcs := HBOX.out w hSw; clear hSw; go_split_ands; go_simp; with_reducible rfl)
               · (simp only [Act.put, List.setIfInBounds_toArray, List.set_cons_zero, List.set_cons_succ]; with_reducible rfl))
            | (refine seq_skip (a' := ?_) hKc (by rfl) ?_ ?_
               rotate_left
               · (simp only [Act.put, List.setIfInBounds_toArray, List.set_cons_zero, List.set_cons_succ]; with_reducible rfl)))
          refine sq_callx (R := fun v w' => ∃ A5 c5, v = .slice A5 ab c5 ∧ Area w' A5 ab 81 (askF 2 (arF za) (arF zb))) (f := 10) (args := ?_) (by rfl) (by rfl) (by rfl) Tryd.call10 ?_ ?_ ?_
          rotate_left 1
          · (go_simp; with_reducible rfl)
          · refine (rbuild_any ab 2 HAB.out (HA.out.keep hKc) (HB.out.keep hKc) (by decide) (by decide) (by omega) (by decide)).mono ?_
            rintro e w' ⟨A5, c5, rfl, hk, ha5, -⟩
            exact ⟨_, rfl, hKc.trans hk, A5, c5, rfl, ha5.area⟩
          rintro v w8 hK8 ⟨A5, c5, rfl, ha5⟩
          simp only [Act.put, List.setIfInBounds_toArray, List.set_cons_zero, List.set_cons_succ]
          clear hKc
          have hKc := hK8
          repeat (first
            | (refine seq_take (v := ?_) (a' := ?_) (by rfl) ?_ ?_ ?_
               rotate_left 2
               · (intro w hSw; have hcs := HBOX.out w hSw; clear hSw; go_split_ands; go_simp; with_reducible rfl)
               · (simp only [Act.put, List.setIfInBounds_toArray, List.set_cons_zero, List.set_cons_succ]; with_reducible rfl))
            | (refine seq_skip (a' := ?_) hKc (by rfl) ?_ ?_
               rotate_left
               · (simp only [Act.put, List.setIfInBounds_toArray, List.set_cons_zero, List.set_cons_succ]; with_reducible rfl)))
          refine seq_callR (R := fun _ => True) (f := 23) (args := ?_) (v := ?_) (a' := ?_) (by rfl) (by rfl) (by rfl) Tryd.call23 ?_ ?_ ?_ ?_
          rotate_left 3
          · (go_simp; with_reducible rfl)
          · ((with_reducible refine Calls.mono (rempty_any vw ha5 (by omega) (by decide) HSUB.out) ?_)
             rintro e w' ⟨rfl, hk⟩
             refine ⟨?_, hKc.trans hk, trivial⟩
             with_reducible rfl)
          · (simp only [Act.put, List.setIfInBounds_toArray, List.set_cons_zero, List.set_cons_succ]; with_reducible rfl)
          clear hKc
          intro wn hKc _
          repeat (first
            | (refine seq_take (v := ?_) (a' := ?_) (by rfl) ?_ ?_ ?_
               rotate_left 2
               · (intro w hSw; have hcs := HBOX.out w hSw; clear hSw; go_split_ands; go_simp; with_reducible rfl)
               · (simp only [Act.put, List.setIfInBounds_toArray, List.set_cons_zero, List.set_cons_succ]; with_reducible rfl))
            | (refine seq_skip (a' := ?_) hKc (by rfl) ?_ ?_
               rotate_left
               · (simp only [Act.put, List.setIfInBounds_toArray, List.set_cons_zero, List.set_cons_succ]; with_reducible rfl)))
          refine seq_callR (R := fun _ => True) (f := 24) (args := ?_) (v := ?_) (a' := ?_) (by rfl) (by rfl) (by rfl) Tryd.call24 ?_ ?_ ?_ ?_
          rotate_left 3
          · (go_simp; with_reducible rfl)
          · ((with_reducible refine Calls.mono (same_a vs (HA.out.keep hKc) (HB.out.keep hKc) (by decide) (by decide) (by omega) HV.out.2.2.1.iff) ?_)
             rintro e w' ⟨rfl, hk⟩
             refine ⟨?_, hKc.trans hk, trivial⟩
             with_reducible rfl)
          · (simp only [Act.put, List.setIfInBounds_toArray, List.set_cons_zero, List.set_cons_succ]; with_reducible rfl)
          clear hKc
          intro wn hKc _
          repeat (first
            | (refine seq_take (v := ?_) (a' := ?_) (by rfl) ?_ ?_ ?_
               rotate_left 2
               · (intro w hSw; have hcs := HBOX.out w hSw; clear hSw; go_split_ands; go_simp; with_reducible rfl)
               · (simp only [Act.put, List.setIfInBounds_toArray, List.set_cons_zero, List.set_cons_succ]; with_reducible rfl))
            | (refine seq_skip (a' := ?_) hKc (by rfl) ?_ ?_
               rotate_left
               · (simp only [Act.put, List.setIfInBounds_toArray, List.set_cons_zero, List.set_cons_succ]; with_reducible rfl)))
          refine seq_callR (R := fun _ => True) (f := 25) (args := ?_) (v := ?_) (a' := ?_) (by rfl) (by rfl) (by rfl) Tryd.call25 ?_ ?_ ?_ ?_
          rotate_left 3
          · (go_simp; with_reducible rfl)
          · ((with_reducible refine Calls.mono (rsamea_any vs (HA.out.keep hKc) (HB.out.keep hKc) (by decide) (by decide) (by omega) HV.out.2.2.1.iff) ?_)
             rintro e w' ⟨rfl, hk⟩
             refine ⟨?_, hKc.trans hk, trivial⟩
             with_reducible rfl)
          · (simp only [Act.put, List.setIfInBounds_toArray, List.set_cons_zero, List.set_cons_succ]; with_reducible rfl)
          clear hKc
          intro wn hKc _
          repeat (first
            | (refine seq_take (v := ?_) (a' := ?_) (by rfl) ?_ ?_ ?_
               rotate_left 2
               · (intro w hSw; have hcs := HBOX.out w hSw; clear hSw; go_split_ands; go_simp; with_reducible rfl)
               · (simp only [Act.put, List.setIfInBounds_toArray, List.set_cons_zero, List.set_cons_succ]; with_reducible rfl))
            | (refine seq_skip (a' := ?_) hKc (by rfl) ?_ ?_
               rotate_left
               · (simp only [Act.put, List.setIfInBounds_toArray, List.set_cons_zero, List.set_cons_succ]; with_reducible rfl)))
          refine seq_callR (R := fun _ => True) (f := 26) (args := ?_) (v := ?_) (a' := ?_) (by rfl) (by rfl) (by rfl) Tryd.call26 ?_ ?_ ?_ ?_
          rotate_left 3
          · (go_simp; with_reducible rfl)
          · ((with_reducible refine Calls.mono (empty_a ve (HA.out.keep hKc) (by decide) (by omega) HV.out.2.2.2.iff) ?_)
             rintro e w' ⟨rfl, hk⟩
             refine ⟨?_, hKc.trans hk, trivial⟩
             with_reducible rfl)
          · (simp only [Act.put, List.setIfInBounds_toArray, List.set_cons_zero, List.set_cons_succ]; with_reducible rfl)
          clear hKc
          intro wn hKc _
          repeat (first
            | (refine seq_take (v := ?_) (a' := ?_) (by rfl) ?_ ?_ ?_
               rotate_left 2
               · (intro w hSw; have hcs := HBOX.out w hSw; clear hSw; go_split_ands; go_simp; with_reducible rfl)
               · (simp only [Act.put, List.setIfInBounds_toArray, List.set_cons_zero, List.set_cons_succ]; with_reducible rfl))
            | (refine seq_skip (a' := ?_) hKc (by rfl) ?_ ?_
               rotate_left
               · (simp only [Act.put, List.setIfInBounds_toArray, List.set_cons_zero, List.set_cons_succ]; with_reducible rfl)))
          refine seq_callR (R := fun _ => True) (f := 23) (args := ?_) (v := ?_) (a' := ?_) (by rfl) (by rfl) (by rfl) Tryd.call23 ?_ ?_ ?_ ?_
          rotate_left 3
          · (go_simp; with_reducible rfl)
          · ((with_reducible refine Calls.mono (rempty_any ve (HA.out.keep hKc) (by omega) (by decide) HV.out.2.2.2.iff) ?_)
             rintro e w' ⟨rfl, hk⟩
             refine ⟨?_, hKc.trans hk, trivial⟩
             with_reducible rfl)
          · (simp only [Act.put, List.setIfInBounds_toArray, List.set_cons_zero, List.set_cons_succ]; with_reducible rfl)
          clear hKc
          intro wn hKc _
          repeat (first
            | (refine seq_take (v := ?_) (a' := ?_) (by rfl) ?_ ?_ ?_
               rotate_left 2
               · (intro w hSw; have hcs := HBOX.out w hSw; clear hSw; go_split_ands; go_simp; with_reducible rfl)
               · (simp only [Act.put, List.setIfInBounds_toArray, List.set_cons_zero, List.set_cons_succ]; with_reducible rfl))
            | (refine seq_skip (a' := ?_) hKc (by rfl) ?_ ?_
               rotate_left
               · (simp only [Act.put, List.setIfInBounds_toArray, List.set_cons_zero, List.set_cons_succ]; with_reducible rfl)))
          refine seq_callR (R := fun _ => True) (f := 27) (args := ?_) (v := ?_) (a' := ?_) (by rfl) (by rfl) (by rfl) Tryd.call27 ?_ ?_ ?_ ?_
          rotate_left 3
          · (go_simp; with_reducible rfl)
          · ((with_reducible refine Calls.mono (mask_v (HA.out.keep hKc) (by decide) (by omega) hca HMK.out) ?_)
             rintro e w' ⟨rfl, hk⟩
             refine ⟨?_, hKc.trans hk, trivial⟩
             with_reducible rfl)
          · (simp only [Act.put, List.setIfInBounds_toArray, List.set_cons_zero, List.set_cons_succ]; with_reducible rfl)
          clear hKc
          intro wn hKc _
          repeat (first
            | (refine seq_take (v := ?_) (a' := ?_) (by rfl) ?_ ?_ ?_
               rotate_left 2
               · (intro w hSw; have hcs := HBOX.out w hSw; clear hSw; go_split_ands; go_simp; with_reducible rfl)
               · (simp only [Act.put, List.setIfInBounds_toArray, List.set_cons_zero, List.set_cons_succ]; with_reducible rfl))
            | (refine seq_skip (a' := ?_) hKc (by rfl) ?_ ?_
               rotate_left
               · (simp only [Act.put, List.setIfInBounds_toArray, List.set_cons_zero, List.set_cons_succ]; with_reducible rfl)))
          refine seq_nil ?_
          have HF := Lib.hid ((HK0.out.trans HKC.out).trans hKc)
          clear hKc hK8 ha5 HBOX
          go_wp2
          go_ret
          exact ⟨rfl, HF.out⟩

set_option maxRecDepth 100000 in
set_option maxHeartbeats 4000000 in
theorem areas_long {w : World} {A B : Option Addr} {na ca nb cb : Nat} {za zb : List (List Sp)} {n m lb key most : Int} (ra : AArg w A na ca za) (rb : AArg w B nb cb zb) (he : ¬ (fewB za = true ∧ fewB zb = true)) (hT : Tab w) :
    Calls Tryd.prog 3 #[.slice A na ca, .slice B nb cb, .int .i64 n, .int .u32 m, .agg #[.int .i64 lb, .int .u32 key], .int .i64 most] w fun e w' => e = .returned (.bool true) ∧ Keep w w' := by
  have k0 := (Keep.refl w).alloc (.cells #[.int .i64 lb, .int .u32 key] 25)
  have Ha := Lib.hid (ra.keep k0)
  have Hb := Lib.hid (rb.keep k0)
  have HT := Lib.hid (hT.below hT.pos k0)
  have HK0 := Lib.hid k0
  have hKc := Keep.refl (w.alloc (.cells #[.int .i64 lb, .int .u32 key] 25))
  clear ra rb hT k0
  cases ha : fewB za
  · clear he
    go_enter Tryd.func3, Tryd.ntmps3
    go_wp2_with fail
    generalize w.alloc (.cells #[.int .i64 lb, .int .u32 key] 25) = W at *
    go_wp2_with fail
    go_at_call 8
    refine (alive_any _ HT.out).mono ?_
    rintro e w101 ⟨rfl, hk⟩
    replace HT := Lib.hid (HT.out.below HT.out.pos hk)
    replace Ha := Lib.hid (Ha.out.keep hk)
    replace Hb := Lib.hid (Hb.out.keep hk)
    replace hKc := hKc.trans hk
    clear hk
    go_wp2_with fail
    go_at_call 9
    refine (few_a Ha.out).mono ?_
    rintro e wfa ⟨rfl, rfl⟩
    rw [ha]
    go_wp2
    go_ret
    exact ⟨rfl, HK0.out.trans hKc⟩
  · have hb : fewB zb = false := by cases hb : fewB zb <;> simp_all
    clear he
    go_enter Tryd.func3, Tryd.ntmps3
    go_wp2_with fail
    generalize w.alloc (.cells #[.int .i64 lb, .int .u32 key] 25) = W at *
    go_wp2_with fail
    go_at_call 8
    refine (alive_any _ HT.out).mono ?_
    rintro e w101 ⟨rfl, hk⟩
    replace HT := Lib.hid (HT.out.below HT.out.pos hk)
    replace Ha := Lib.hid (Ha.out.keep hk)
    replace Hb := Lib.hid (Hb.out.keep hk)
    replace hKc := hKc.trans hk
    clear hk
    go_wp2_with fail
    go_at_call 9
    refine (few_a Ha.out).mono ?_
    rintro e wfa ⟨rfl, rfl⟩
    rw [ha]
    go_wp2_with fail
    go_at_call 9
    refine (few_a Hb.out).mono ?_
    rintro e wfb ⟨rfl, rfl⟩
    rw [hb]
    go_wp2
    go_ret
    exact ⟨rfl, HK0.out.trans hKc⟩

theorem AreaSets_std (A : Option Addr) (na ca : Nat) (za : List (List Sp)) (B : Option Addr) (nb cb : Nat) (zb : List (List Sp)) (n : Int) (_wn : (Lit.int .i64 n).wf = true) (m : Int) (wm : (Lit.int .u32 m).wf = true) (z : Int × Int) (most : Int) (_wo : (Lit.int .i64 most).wf = true) (w : World) (ra : AArg w A na ca za) (rb : AArg w B nb cb zb) (rz : (Lit.int .i64 z.1).wf = true ∧ (Lit.int .u32 z.2).wf = true) (hT : Tab w) :
    Calls Tryd.prog 3 #[.slice A na ca, .slice B nb cb, .int .i64 n, .int .u32 m, .agg #[.int .i64 z.1, .int .u32 z.2], .int .i64 most] w fun e w' => e = .returned (.bool true) ∧ Below w.heap.size w w' := by
  by_cases h : fewB za = true ∧ fewB zb = true
  · have b1 := bounds_u32 wm
    obtain ⟨m, rfl⟩ : ∃ q : Nat, m = q := ⟨m.toNat, by omega⟩
    exact areas_few ra rb h.1 h.2 (by omega) (bounds_u32 rz.2) hT
  · exact areas_long ra rb h hT
end Go.Proofs.YtmdhbbibghpijaaDoor
