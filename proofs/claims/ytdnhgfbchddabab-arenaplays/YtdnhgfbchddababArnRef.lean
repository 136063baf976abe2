/- The document's own functions of layer 9: Alloc, Has, Set. -/
import Derived.Test.YtdnhgfbchddababArnArg
namespace Go.Proofs.Ytdnhgfbchddabab
open Go.RowKit

/-- A row of the document's nodes: nobody writes into it any more. -/
def RS (w : World) (A : Option Addr) (c : Nat) (zs : List Nd) : Prop := NdS w w.heap.size A zs ∧ (A = none → c = 0 ∧ zs = [])
theorem NdS.more {w : World} {B B' : Nat} {A : Option Addr} {zs : List Nd} (h : NdS w B A zs) (hB : B ≤ B') : NdS w B' A zs := fun i z hz => by
  obtain ⟨b, off, e, h1, h2, h3⟩ := h i z hz
  exact ⟨b, off, e, by omega, h2, h3⟩
theorem RS.keep {w w' : World} {A : Option Addr} {c : Nat} {zs : List Nd} (h : RS w A c zs) (hk : Keep w w') : RS w' A c zs := ⟨(h.1.keep hk).more hk.size, h.2⟩
theorem RS.only {w w' : World} {S : Nat → Prop} {A : Option Addr} {c : Nat} {zs : List Nd} (h : RS w A c zs) (hk : Only S w w') (hS : ∀ b off, A = some ⟨b, off, none⟩ → ¬ S b) : RS w' A c zs := ⟨(h.1.only hk hS).more hk.size, h.2⟩
theorem RS.news {w : World} {ad : Addr} {c : Nat} {zs : List Nd} (h : RS w (some ad) c zs) : ∀ j u, (nds zs)[j]? = some u → w.cell? (ad.add j) = some u := fun j u hu => by
  have hj : j < zs.length * 7 := by have := (List.getElem?_eq_some_iff.1 hu).1; rwa [nds_length] at this
  have hi : j / 7 < zs.length := by omega
  obtain ⟨b, off, e, _, _, c0, c1, c2, c3, c4, c5, c6⟩ := h.1 (j / 7) zs[j / 7] (List.getElem?_eq_getElem hi)
  cases e
  have hg := nds_get zs (j / 7) zs[j / 7] (List.getElem?_eq_getElem hi) (j % 7) (by omega)
  rw [show j / 7 * 7 + j % 7 = j by omega, hu] at hg
  rw [addr_add, show off + j = off + j / 7 * 7 + j % 7 by omega]
  have h7 : j % 7 < 7 := by omega
  generalize j % 7 = r at *
  generalize zs[j / 7] = z at *
  match r, h7 with
  | 0, _ => simp [ndc] at hg; subst hg; exact c0
  | 1, _ => simp [ndc] at hg; subst hg; exact c1
  | 2, _ => simp [ndc] at hg; subst hg; exact c2
  | 3, _ => simp [ndc] at hg; subst hg; exact c3
  | 4, _ => simp [ndc] at hg; subst hg; exact c4
  | 5, _ => simp [ndc] at hg; subst hg; exact c5
  | 6, _ => simp [ndc] at hg; subst hg; exact c6
section
variable {P : Program} {w : World}
theorem wpList_append_nds {ops : Array Oper} {rest : List Oper} {o : Oper} {a : Act} {Q : Exit → Act → World → Prop} (hgd : o.guard = none) (s x : Operand) (t : TypeId)
    (ho : o.op = .call { callee := .builtin .append, args := #[s, x], argTypes := #[t, t] })
    (base : Nat) (e : TypeId) (i : TypeInfo) (z : Value) (bytes : Nat) (ht : P.underlying t = some (.slice e)) (hi : P.info? e = some i) (hz : i.zero = some z)
    (hsize : i.size = 7) (hby : i.bytes = bytes) (hzs : z.cells.size = 7)
    (v : Value) (n : Nat) (xs : List Value) (hs : a.eval s = v) (hown : w.ownsRow base e 7 v n xs)
    (A : Option Addr) (m c : Nat) (zs : List Nd) (hx : a.eval x = .slice A m c) (hl : zs.length = m) (hR : RS w A c zs)
    (h63 : n + m ≤ maxLen) (hbytes : (n + m) * bytes ≤ 140737488355328) (hbase : base ≤ w.heap.size)
    (h : ∀ A' c' w', w'.ownsRow base e 7 (.slice A' (n + m) c') (n + m) (xs ++ nds zs) → w.grownBy w' v.ownBlock → ((Value.slice A' (n + m) c').ownBlock = v.ownBlock ∨ (Value.slice A' (n + m) c').ownBlock = some w.heap.size) → wpList P ops Q rest (a.put o.dst (.slice A' (n + m) c')) w') :
    wpList P ops Q (o :: rest) a w := by
  rcases A with _ | ad
  · obtain ⟨rfl, rfl⟩ := hR.2 rfl
    obtain rfl : m = 0 := hl.symm
    refine wpList_plain hgd fun K hK => ?_
    have hr := run_append_owned_none (P := P) (w := w) base t o.type e i 7 ht hi v n xs hown
    obtain ⟨A', c', rfl⟩ : ∃ A' c', v = .slice A' n c' := by
      rcases hown.2 with ⟨rfl, h0⟩ | ⟨g, cap, cur, rfl, _⟩
      · exact ⟨none, 0, by rw [h0]⟩
      · exact ⟨_, _, rfl⟩
    unfold Oper.wp execOp
    simp only [ho, resolve, invoke, builtin, Sem.run_bind, Sem.run_pure, Result.andThen_ok, List.map_toArray, List.map_cons, List.map_nil, hs, hx, hr]
    exact hK _ _ (h A' c' w (by simpa [nds] using hown) (World.grownBy.refl w _) (.inl rfl))
  · exact wpList_append_sz hgd s x t ho base e i z 7 bytes ht hi hz hsize hby hzs (by decide) v n xs hs hown ad m c (nds zs) hx (by rw [nds_length, hl]) hR.news (nds_one zs) h63 hbytes hbase h
end
theorem infoRn : (Try.prog.info? 44).map (fun i => (i.zero, i.size, i.bytes)) = some (some (.agg #[.int .i32 0, .int .i32 0, .int .i64 0, .int .i64 0, .int .i64 0, .int .i64 0, .bool false]), 7, 48) := by kernel_rfl

set_option maxHeartbeats 1000000 in
theorem rhas_is (i : Int) (v : Bool) (A : Option Addr) (c : Nat) (lim : Int) (zs : List Nd) (w : World) (hv : decide (1 ≤ i ∧ i ≤ (zs.length : Int)) = v) (hi : -2147483648 ≤ i ∧ i ≤ 2147483647) :
    Calls Try.prog 15 #[.agg #[.slice A zs.length c, .int .i64 lim], .int .i32 i] w fun e w' => e = .returned (.bool v) ∧ Keep w w' := by
  by_cases hl : 0 < i
  · have e : v = decide (i ≤ (zs.length : Int)) := by rw [← hv]; simp; omega
    have HE := Lib.hid e
    clear e hv
    go_enter Try.func15, Try.ntmps15
    go_wp2
    go_ret
    exact ⟨by rw [HE.out]; rfl, (Keep.refl w).alloc _⟩
  · have e : v = false := by rw [← hv]; simp; omega
    have hl2 : i ≤ 0 := by omega
    have HE := Lib.hid e
    clear e hv hl
    go_enter Try.func15, Try.ntmps15
    go_wp2
    go_ret
    exact ⟨by rw [HE.out]; rfl, (Keep.refl w).alloc _⟩
theorem ralloc_no (A : Option Addr) (c lim : Nat) (zs : List Nd) (w : World) (hf : zs.length = lim) :
    Calls Try.prog 11 #[.agg #[.slice A zs.length c, .int .i64 lim]] w fun e w' => e = .returned (.tuple #[.agg #[.slice A zs.length c, .int .i64 lim], .int .i32 0, .int .i64 6]) ∧ Keep w w' := by
  subst hf
  go_enter Try.func11, Try.ntmps11
  go_wp2
  exact bodyPost_ret (v := .tuple #[.agg #[.slice A zs.length c, .int .i64 zs.length], .int .i32 0, .int .i64 6]) (by simp [results, Try.results11, go_sem]) rfl ⟨rfl, ((Keep.refl w).alloc _).alloc _⟩

def RPost (w : World) (lim : Int) (ys : List Nd) (vs : List Value) (e : Ending) (w' : World) : Prop :=
  ∃ A c, e = .returned (.tuple (#[.agg #[.slice A ys.length c, .int .i64 lim]] ++ vs.toArray)) ∧ RS w' A c ys ∧ Keep w w' ∧ (∀ b off, A = some ⟨b, off, none⟩ → w.heap.size ≤ b)
/-- A block that holds a row and a limit. -/
def RBox (w : World) (b : Nat) (A : Option Addr) (n c : Nat) (lim : Int) : Prop := w.heap[b]? = some (.cells #[.slice A n c, .int .i64 lim] 30 (0, 0))
theorem RBox.new (w : World) (A : Option Addr) (n c : Nat) (lim : Int) : RBox (w.alloc (.cells #[.slice A n c, .int .i64 lim] 30)) w.heap.size A n c lim := World.alloc_heap_new _ _
theorem RBox.lt {w : World} {b : Nat} {A : Option Addr} {n c : Nat} {lim : Int} (h : RBox w b A n c lim) : b < w.heap.size := (Array.getElem?_eq_some_iff.1 h).1
theorem RBox.cells {w : World} {b : Nat} {A : Option Addr} {n c : Nat} {lim : Int} (h : RBox w b A n c lim) : w.cell? ⟨b, 0, none⟩ = some (.slice A n c) ∧ w.cell? ⟨b, 1, none⟩ = some (.int .i64 lim) ∧ w.frozen? ⟨b, 0, none⟩ = false ∧ w.frozen? ⟨b, 1, none⟩ = false := by
  unfold RBox at h
  simp [World.cell?, World.frozen?, h]
theorem RBox.block {w w' : World} {b : Nat} {A : Option Addr} {n c : Nat} {lim : Int} (h : RBox w b A n c lim) (hb : w'.heap[b]? = w.heap[b]?) : RBox w' b A n c lim := hb.trans h
theorem RBox.set {w : World} {b : Nat} {A : Option Addr} {n c : Nat} {lim : Int} (h : RBox w b A n c lim) (A' : Option Addr) (n' c' : Nat) : RBox (w.setCell ⟨b, 0, none⟩ (.slice A' n' c')) b A' n' c' lim := by
  unfold RBox at *
  simp only [World.setCell, Array.getElem?_modify, h, if_true, Option.map_some]
  rfl
theorem RBox.other {w : World} {b b' : Nat} {A : Option Addr} {n c : Nat} {lim : Int} (h : RBox w b A n c lim) (o : Nat) (v : Value) (hne : b ≠ b') : RBox (w.setCell ⟨b', o, none⟩ v) b A n c lim := h.block (Below.heap_setCell _ _ _ b hne)
theorem RBox.store {w : World} {b : Nat} {A : Option Addr} {n c : Nat} {lim : Int} (h : RBox w b A n c lim) (A' : Option Addr) (n' c' : Nat) (lim' : Int) : RBox ((w.setCell ⟨b, 0, none⟩ (.slice A' n' c')).setCell ⟨b, 1, none⟩ (.int .i64 lim')) b A' n' c' lim' := by
  unfold RBox at *
  simp only [World.setCell, Array.getElem?_modify, h, if_true, Option.map_some]
  rfl
theorem RBox.grown {w w' : World} {b : Nat} {A : Option Addr} {n c : Nat} {lim : Int} {row : Option Nat} (h : RBox w b A n c lim) (hg : w.grownBy w' row) (hne : some b ≠ row) : RBox w' b A n c lim := h.block (hg.block b h.lt hne)
theorem RBox.alloc {w : World} {b : Nat} {A : Option Addr} {n c : Nat} {lim : Int} (h : RBox w b A n c lim) (o : Obj) : RBox (w.alloc o) b A n c lim := h.block (Below.heap_alloc _ o _ h.lt)
theorem news_new (w : World) (z : Nd) : ∀ j u, (ndc z)[j]? = some u → (w.alloc (.cells #[.int .i32 z.l, .int .i32 z.r, .int .i64 z.c, .int .i64 z.s, .int .i64 z.mn, .int .i64 z.mx, .bool z.k] 44)).cell? ((⟨w.heap.size, 0, none⟩ : Addr).add j) = some u := fun j u hu => by
  have h : (w.alloc (.cells #[.int .i32 z.l, .int .i32 z.r, .int .i64 z.c, .int .i64 z.s, .int .i64 z.mn, .int .i64 z.mx, .bool z.k] 44)).heap[w.heap.size]? = some (.cells #[.int .i32 z.l, .int .i32 z.r, .int .i64 z.c, .int .i64 z.s, .int .i64 z.mn, .int .i64 z.mx, .bool z.k] 44 (0, 0)) := World.alloc_heap_new w (.cells #[.int .i32 z.l, .int .i32 z.r, .int .i64 z.c, .int .i64 z.s, .int .i64 z.mn, .int .i64 z.mx, .bool z.k] 44)
  generalize w.alloc (.cells #[.int .i32 z.l, .int .i32 z.r, .int .i64 z.c, .int .i64 z.s, .int .i64 z.mn, .int .i64 z.mx, .bool z.k] 44) = W at *
  rw [addr_add, Nat.zero_add]
  simpa [World.cell?, h, ndc] using hu
theorem RS.of_row {w : World} {base n c : Nat} {A : Option Addr} {zs : List Nd} (h : w.ownsRow base 44 7 (.slice A n c) n (nds zs)) : RS w A c zs ∧ ∀ b off, A = some ⟨b, off, none⟩ → base ≤ b := by
  have hn : zs.length = n := by
    have h1 := h.1
    rw [nds_length] at h1
    omega
  rcases h.2 with ⟨e, h0⟩ | ⟨g, cap, cur, e, _⟩
  · simp at e
    obtain ⟨rfl, _, rfl⟩ := e
    have : zs = [] := List.eq_nil_of_length_eq_zero (by omega)
    subst this
    exact ⟨⟨fun i z hz => by simp at hz, fun _ => ⟨rfl, rfl⟩⟩, fun b off e => by cases e⟩
  · cases e
    have hlt := h.lt g rfl
    refine ⟨⟨fun j z hj => ?_, fun e => by cases e⟩, fun b off e => by cases e; exact hlt.1⟩
    have hl := (List.getElem?_eq_some_iff.1 hj).1
    have hg := nds_get zs j z hj
    have hc : ∀ i, i < 7 → w.cell? ⟨g, 0 + j * 7 + i, none⟩ = (ndc z)[i]? := fun i hi => by
      rw [Nat.zero_add]
      exact (h.cellAt (j * 7 + i) (by omega)).trans (hg i hi)
    exact ⟨g, 0, rfl, hlt.2, hlt.2, hc 0 (by omega), hc 1 (by omega), hc 2 (by omega), hc 3 (by omega), hc 4 (by omega), hc 5 (by omega), hc 6 (by omega)⟩

set_option maxRecDepth 100000 in
set_option maxHeartbeats 2000000 in
theorem ralloc_yes (A : Option Addr) (c lim : Nat) (zs : List Nd) (w : World) (hR : RS w A c zs) (hf : zs.length < lim) (ht : lim ≤ 4194304) :
    Calls Try.prog 11 #[.agg #[.slice A zs.length c, .int .i64 lim]] w (RPost w lim (zs ++ [Nd.zero]) [.int .i32 ((zs.length : Int) + 1), .int .i64 0]) := by
  obtain ⟨i0, hi, hz0, hz1, hz2⟩ := info_parts infoRn
  have hne : ((zs.length : Int) == (lim : Int)) = false := by rw [beq_eq_false_iff_ne]; omega
  have hml : 0 + zs.length ≤ maxLen := by unfold maxLen; omega
  have hby : (0 + zs.length) * 48 ≤ 140737488355328 := by omega
  have hml2 : zs.length + 1 ≤ maxLen := by unfold maxLen; omega
  have hby2 : (zs.length + 1) * 48 ≤ 140737488355328 := by omega
  have bX := ((RBox.new w A zs.length c lim).block (Below.heap_alloc _ (.cells #[.slice none 0 0, .int .i64 0] 30) _ (by simp)))
  have bX2 := bX.block (Below.heap_alloc _ (.cells #[] 44) _ (by simp; omega))
  have bY := (RBox.new (w.alloc (.cells #[.slice A zs.length c, .int .i64 lim] 30)) none 0 0 0).block (Below.heap_alloc _ (.cells #[] 44) _ (by simp))
  have oR := World.ownsRow_made (base := w.heap.size + 1 + 1) (e := 44) (size := 7) ((w.alloc (.cells #[.slice A zs.length c, .int .i64 lim] 30)).alloc (.cells #[.slice none 0 0, .int .i64 0] 30)) #[] 0 (by simp) (by simp) rfl
  have hK3 := (((Keep.refl w).alloc (.cells #[.slice A zs.length c, .int .i64 lim] 30)).alloc (.cells #[.slice none 0 0, .int .i64 0] 30)).alloc (.cells #[] 44)
  have hR3 := hR.keep hK3
  have hs3 : w.heap.size + 1 + 1 ≤ (((w.alloc (.cells #[.slice A zs.length c, .int .i64 lim] 30)).alloc (.cells #[.slice none 0 0, .int .i64 0] 30)).alloc (.cells #[] 44)).heap.size := by simp
  simp only [World.size_alloc] at oR bY
  have HX := Lib.hid bX2
  have HY := Lib.hid bY
  have HO := Lib.hid oR
  have HK3 := Lib.hid hK3
  have HR3 := Lib.hid hR3
  clear bX bX2 bY oR hK3 hR3 hR
  go_enter Try.func11, Try.ntmps11
  go_wp2_with (first
    | (at_builtin; refine wpList_append_sz rfl _ _ 28 rfl (w.heap.size + 1 + 1) 44 i0 (.agg #[.int .i32 0, .int .i32 0, .int .i64 0, .int .i64 0, .int .i64 0, .int .i64 0, .bool false]) 7 48 Try.underlying28 hi hz0 hz1 hz2 rfl (by decide) (.slice A4 zs.length c4) zs.length (nds zs) rfl (HO4.out.alloc _) ⟨w4.heap.size, 0, none⟩ 1 1 (ndc Nd.zero) rfl rfl (news_new w4 Nd.zero) (nds_single Nd.zero ▸ nds_one [Nd.zero]) hml2 hby2 (by simp; omega) ?_; intro A6 c6 w6 hown6 hgrow6 hbl6; have HO6 := Lib.hid hown6; have HG6 := Lib.hid hgrow6; have HX6 := Lib.hid ((HX4.out.alloc _).grown hgrow6 (fun e => by have := (HO4.out.lt _ e.symm).1; omega)); have HY6 := Lib.hid ((HY4.out.alloc _).grown hgrow6 (fun e => by have := (HO4.out.lt _ e.symm).1; omega)); obtain ⟨x0, x1, x2, x3⟩ := HX6.out.cells; obtain ⟨y0, y1, y2, y3⟩ := HY6.out.cells; clear hown6 hgrow6 hbl6)
    | (at_builtin; refine wpList_append_nds rfl _ _ 28 rfl (w.heap.size + 1 + 1) 44 i0 (.agg #[.int .i32 0, .int .i32 0, .int .i64 0, .int .i64 0, .int .i64 0, .int .i64 0, .bool false]) 48 Try.underlying28 hi hz0 hz1 hz2 rfl (.slice (some ⟨w.heap.size + 1 + 1, 0, none⟩) 0 0) 0 [] rfl HO.out A zs.length c zs rfl rfl HR3.out hml hby hs3 ?_; intro A4 c4 w4 hown4 hgrow4 hbl4; rw [List.nil_append, Nat.zero_add] at hown4; have HO4 := Lib.hid hown4; have HG4 := Lib.hid hgrow4; have hs4 := hgrow4.size; simp only [World.size_alloc] at hs4; have HX4 := Lib.hid (HX.out.grown hgrow4 (by simp [Value.ownBlock]; omega)); have HY4 := Lib.hid (HY.out.grown hgrow4 (by simp [Value.ownBlock])); clear hown4 hgrow4 hbl4))
  go_region
  go_wp2
  have hO : Only (fun k => w.heap.size ≤ k) (((w.alloc (.cells #[.slice A zs.length c, .int .i64 lim] 30)).alloc (.cells #[.slice none 0 0, .int .i64 0] 30)).alloc (.cells #[] 44)) w6 :=
    (((Only.refl _ _).grown HG4.out (fun k _ e => by simp [Value.ownBlock] at e; omega)).alloc _).grown HG6.out (fun k _ e => by have := (HO4.out.lt k e).1; omega)
  have hk6 := Only.keep HK3.out hO (fun _ h => h)
  have hB : RBox (((w6.setCell ⟨w.heap.size, 0, none⟩ (.slice A6 (zs.length + 1) c6)).setCell ⟨w.heap.size + 1, 0, none⟩ (.slice A6 (zs.length + 1) c6)).setCell ⟨w.heap.size + 1, 1, none⟩ (.int .i64 lim)).drew (w.heap.size + 1) A6 (zs.length + 1) c6 lim :=
    ((HY6.out.other 0 _ (by omega)).store A6 (zs.length + 1) c6 lim).block rfl
  have hO2 : Only (fun k => k = w.heap.size ∨ k = w.heap.size + 1) w6 (((w6.setCell ⟨w.heap.size, 0, none⟩ (.slice A6 (zs.length + 1) c6)).setCell ⟨w.heap.size + 1, 0, none⟩ (.slice A6 (zs.length + 1) c6)).setCell ⟨w.heap.size + 1, 1, none⟩ (.int .i64 lim)).drew :=
    ((((Only.refl _ w6).setCell _ _ (.inl rfl)).setCell _ _ (.inr rfl)).setCell _ _ (.inr rfl)).drew
  have hkF := Only.keep hk6 hO2 (fun k hk => by omega)
  have hrow := ownsRow_only HO6.out hO2 (fun g e hk => by have := (HO6.out.lt g e).1; omega)
  generalize (((w6.setCell ⟨w.heap.size, 0, none⟩ (.slice A6 (zs.length + 1) c6)).setCell ⟨w.heap.size + 1, 0, none⟩ (.slice A6 (zs.length + 1) c6)).setCell ⟨w.heap.size + 1, 1, none⟩ (.int .i64 lim)).drew = WF at *
  rw [← nds_single, ← nds_append] at hrow
  obtain ⟨hRS, hfr⟩ := RS.of_row hrow
  obtain ⟨z0, z1, _, _⟩ := hB.cells
  have hl : (zs ++ [Nd.zero]).length = zs.length + 1 := by simp
  exact bodyPost_ret (v := .tuple #[.agg #[.slice A6 (zs.length + 1) c6, .int .i64 lim], .int .i32 ((zs.length : Int) + 1), .int .i64 0]) (by simp [results, Try.results11, go_sem, z0, z1]) rfl
    ⟨A6, c6, by rw [hl]; rfl, hRS, hkF, fun b off e => by have := hfr b off e; omega⟩

theorem rset_no (i : Int) (A : Option Addr) (c : Nat) (lim : Int) (zs : List Nd) (y : Nd) (w : World) (hi : -2147483648 ≤ i ∧ i ≤ 2147483647) (hn : ¬ (1 ≤ i ∧ i ≤ (zs.length : Int))) :
    Calls Try.prog 13 #[.agg #[.slice A zs.length c, .int .i64 lim], .int .i32 i, .agg #[.int .i32 y.l, .int .i32 y.r, .int .i64 y.c, .int .i64 y.s, .int .i64 y.mn, .int .i64 y.mx, .bool y.k]] w fun e w' => e = .returned (.tuple #[.agg #[.slice A zs.length c, .int .i64 lim], .int .i64 4]) ∧ Keep w w' := by
  have hh := fun W => rhas_is i false A c lim zs W (decide_eq_false hn) hi
  have HH := Lib.hid hh
  have HB := Lib.hid (((RBox.new w A zs.length c lim).alloc (.cells #[.int .i32 y.l, .int .i32 y.r, .int .i64 y.c, .int .i64 y.s, .int .i64 y.mn, .int .i64 y.mx, .bool y.k] 44)).alloc (.cells #[.slice none 0 0, .int .i64 0] 30))
  have HB2 := Lib.hid (RBox.new ((w.alloc (.cells #[.slice A zs.length c, .int .i64 lim] 30)).alloc (.cells #[.int .i32 y.l, .int .i32 y.r, .int .i64 y.c, .int .i64 y.s, .int .i64 y.mn, .int .i64 y.mx, .bool y.k] 44)) none 0 0 0)
  have HK := Lib.hid ((((Keep.refl w).alloc (.cells #[.slice A zs.length c, .int .i64 lim] 30)).alloc (.cells #[.int .i32 y.l, .int .i32 y.r, .int .i64 y.c, .int .i64 y.s, .int .i64 y.mn, .int .i64 y.mx, .bool y.k] 44)).alloc (.cells #[.slice none 0 0, .int .i64 0] 30))
  clear hh hn
  go_enter Try.func13, Try.ntmps13
  go_wp2_with fail
  generalize hW : ((w.alloc (.cells #[.slice A zs.length c, .int .i64 lim] 30)).alloc (.cells #[.int .i32 y.l, .int .i32 y.r, .int .i64 y.c, .int .i64 y.s, .int .i64 y.mn, .int .i64 y.mx, .bool y.k] 44)).alloc (.cells #[.slice none 0 0, .int .i64 0] 30) = W at *
  refine (HH.out W).mono ?_
  rintro e W1 ⟨rfl, hk1⟩
  have hB1 := HB.out.block (hk1.block _ HB.out.lt)
  have hB2 := HB2.out.block (hk1.block _ HB2.out.lt)
  simp only [World.size_alloc] at hB2
  obtain ⟨x0, x1, x2, x3⟩ := hB1.cells
  obtain ⟨y0, y1, y2, y3⟩ := hB2.cells
  have HB3 := Lib.hid hB2
  have HK1 := Lib.hid (HK.out.trans hk1)
  clear hk1 hB1 hB2 HB HB2 HK HH hW
  go_wp2
  have hB := HB3.out.store A zs.length c lim
  have hO2 : Only (fun k => k = w.heap.size + 1 + 1) W1 ((W1.setCell ⟨w.heap.size + 1 + 1, 0, none⟩ (.slice A zs.length c)).setCell ⟨w.heap.size + 1 + 1, 1, none⟩ (.int .i64 lim)) :=
    ((Only.refl (fun k => k = w.heap.size + 1 + 1) W1).setCell ⟨w.heap.size + 1 + 1, 0, none⟩ _ rfl).setCell ⟨w.heap.size + 1 + 1, 1, none⟩ _ rfl
  have hkF := Only.keep HK1.out hO2 (fun k hk => by omega)
  obtain ⟨z0, z1, _, _⟩ := hB.cells
  exact bodyPost_ret (v := .tuple #[.agg #[.slice A zs.length c, .int .i64 lim], .int .i64 4]) (by simp [results, Try.results13, go_sem, z0, z1]) rfl ⟨rfl, hkF⟩
theorem own_addr {w : World} {base n c : Nat} {e : TypeId} {A : Option Addr} {xs : List Value} (h : w.ownsRow base e 7 (.slice A n c) n xs) (hn : 0 < n) : ∃ g, A = some ⟨g, 0, none⟩ ∧ base ≤ g ∧ g < w.heap.size := by
  rcases h.2 with ⟨e, h0⟩ | ⟨g, cap, cur, e, _⟩
  · exfalso; omega
  · cases e
    exact ⟨g, rfl, h.lt g rfl⟩
theorem blk_cells {w : World} {b : Nat} {t : TypeId} {z : Nd} (h : w.heap[b]? = some (.cells #[.int .i32 z.l, .int .i32 z.r, .int .i64 z.c, .int .i64 z.s, .int .i64 z.mn, .int .i64 z.mx, .bool z.k] t (0, 0))) :
    w.cell? ⟨b, 0, none⟩ = some (.int .i32 z.l) ∧ w.cell? ⟨b, 1, none⟩ = some (.int .i32 z.r) ∧ w.cell? ⟨b, 2, none⟩ = some (.int .i64 z.c) ∧ w.cell? ⟨b, 3, none⟩ = some (.int .i64 z.s) ∧ w.cell? ⟨b, 4, none⟩ = some (.int .i64 z.mn) ∧ w.cell? ⟨b, 5, none⟩ = some (.int .i64 z.mx) ∧ w.cell? ⟨b, 6, none⟩ = some (.bool z.k) := by
  simp [World.cell?, h]
theorem row_at {w : World} {base n c g : Nat} {zs : List Nd} (h : w.ownsRow base 44 7 (.slice (some ⟨g, 0, none⟩) n c) n (nds zs)) (j : Nat) (z : Nd) (hj : zs[j]? = some z) :
    (∀ q, w.frozen? ⟨g, q, none⟩ = false) ∧ NdC w g (j * 7) z := by
  have hn : zs.length = n := by
    have h1 := h.1
    rw [nds_length] at h1
    omega
  have hl := (List.getElem?_eq_some_iff.1 hj).1
  have hg := nds_get zs j z hj
  have hc : ∀ i, i < 7 → w.cell? ⟨g, j * 7 + i, none⟩ = (ndc z)[i]? := fun i hi => (h.cellAt (j * 7 + i) (by omega)).trans (hg i hi)
  exact ⟨fun q => h.frozenAt q, hc 0 (by omega), hc 1 (by omega), hc 2 (by omega), hc 3 (by omega), hc 4 (by omega), hc 5 (by omega), hc 6 (by omega)⟩
theorem row_stored {w : World} {base n c g : Nat} {zs : List Nd} (h : w.ownsRow base 44 7 (.slice (some ⟨g, 0, none⟩) n c) n (nds zs)) (j : Nat) (y : Nd) (hj : j < zs.length) :
    (((((((w.setCell ⟨g, j * 7, none⟩ (.int .i32 y.l)).setCell ⟨g, j * 7 + 1, none⟩ (.int .i32 y.r)).setCell ⟨g, j * 7 + 2, none⟩ (.int .i64 y.c)).setCell ⟨g, j * 7 + 3, none⟩ (.int .i64 y.s)).setCell ⟨g, j * 7 + 4, none⟩ (.int .i64 y.mn)).setCell ⟨g, j * 7 + 5, none⟩ (.int .i64 y.mx)).setCell ⟨g, j * 7 + 6, none⟩ (.bool y.k)).ownsRow base 44 7 (.slice (some ⟨g, 0, none⟩) n c) n (nds (zs.set j y)) := by
  rw [← nds_set zs j y hj]
  exact (((((((h.stored _ _).1.stored _ _).1.stored _ _).1.stored _ _).1.stored _ _).1.stored _ _).1.stored _ _).1
set_option maxRecDepth 100000 in
set_option maxHeartbeats 2000000 in
theorem rset_yes (j : Nat) (A : Option Addr) (c : Nat) (lim : Int) (zs : List Nd) (y : Nd) (w : World) (hR : RS w A c zs) (hj : j < zs.length) (ht : zs.length ≤ 4194304) :
    Calls Try.prog 13 #[.agg #[.slice A zs.length c, .int .i64 lim], .int .i32 ((j : Int) + 1), .agg #[.int .i32 y.l, .int .i32 y.r, .int .i64 y.c, .int .i64 y.s, .int .i64 y.mn, .int .i64 y.mx, .bool y.k]] w (RPost w lim (zs.set j y) [.int .i64 0]) := by
  obtain ⟨i0, hi, hz0, hz1, hz2⟩ := info_parts infoRn
  have hml : 0 + zs.length ≤ maxLen := by unfold maxLen; omega
  have hby : (0 + zs.length) * 48 ≤ 140737488355328 := by omega
  have hh := fun W => rhas_is ((j : Int) + 1) true A c lim zs W (decide_eq_true (by omega)) (by omega)
  have HH := Lib.hid hh
  have HB := Lib.hid (((RBox.new w A zs.length c lim).alloc (.cells #[.int .i32 y.l, .int .i32 y.r, .int .i64 y.c, .int .i64 y.s, .int .i64 y.mn, .int .i64 y.mx, .bool y.k] 44)).alloc (.cells #[.slice none 0 0, .int .i64 0] 30))
  have HB2 := Lib.hid (RBox.new ((w.alloc (.cells #[.slice A zs.length c, .int .i64 lim] 30)).alloc (.cells #[.int .i32 y.l, .int .i32 y.r, .int .i64 y.c, .int .i64 y.s, .int .i64 y.mn, .int .i64 y.mx, .bool y.k] 44)) none 0 0 0)
  have HY := Lib.hid (show ((w.alloc (.cells #[.slice A zs.length c, .int .i64 lim] 30)).alloc (.cells #[.int .i32 y.l, .int .i32 y.r, .int .i64 y.c, .int .i64 y.s, .int .i64 y.mn, .int .i64 y.mx, .bool y.k] 44)).heap[w.heap.size + 1]? = some (.cells #[.int .i32 y.l, .int .i32 y.r, .int .i64 y.c, .int .i64 y.s, .int .i64 y.mn, .int .i64 y.mx, .bool y.k] 44 (0, 0)) from by
    have := World.alloc_heap_new (w.alloc (.cells #[.slice A zs.length c, .int .i64 lim] 30)) (.cells #[.int .i32 y.l, .int .i32 y.r, .int .i64 y.c, .int .i64 y.s, .int .i64 y.mn, .int .i64 y.mx, .bool y.k] 44)
    rwa [World.size_alloc] at this)
  have HK := Lib.hid ((((Keep.refl w).alloc (.cells #[.slice A zs.length c, .int .i64 lim] 30)).alloc (.cells #[.int .i32 y.l, .int .i32 y.r, .int .i64 y.c, .int .i64 y.s, .int .i64 y.mn, .int .i64 y.mx, .bool y.k] 44)).alloc (.cells #[.slice none 0 0, .int .i64 0] 30))
  have HY2 := Lib.hid ((Below.heap_alloc _ (.cells #[.slice none 0 0, .int .i64 0] 30) (w.heap.size + 1) (by simp)).trans HY.out)
  clear hh HY
  go_enter Try.func13, Try.ntmps13
  go_wp2_with fail
  generalize hW : ((w.alloc (.cells #[.slice A zs.length c, .int .i64 lim] 30)).alloc (.cells #[.int .i32 y.l, .int .i32 y.r, .int .i64 y.c, .int .i64 y.s, .int .i64 y.mn, .int .i64 y.mx, .bool y.k] 44)).alloc (.cells #[.slice none 0 0, .int .i64 0] 30) = W at *
  have hsW : W.heap.size = w.heap.size + 1 + 1 + 1 := by rw [← hW]; simp
  clear hW
  refine (HH.out W).mono ?_
  rintro e W1 ⟨rfl, hk1⟩
  have hs1 : w.heap.size + 1 + 1 + 1 ≤ W1.heap.size := by have := hk1.size; omega
  have hB2 := HB2.out.block (hk1.block _ HB2.out.lt)
  simp only [World.size_alloc] at hB2
  have HB3 := Lib.hid (hB2.alloc (.cells #[] 44))
  have HB1 := Lib.hid ((HB.out.block (hk1.block _ HB.out.lt)).alloc (.cells #[] 44))
  obtain ⟨x0, x1, x2, x3⟩ := (HB.out.block (hk1.block _ HB.out.lt)).cells
  have HY3 := Lib.hid ((Below.heap_alloc _ (.cells #[] 44) (w.heap.size + 1) (by omega)).trans ((hk1.block _ (by omega)).trans HY2.out))
  have HK1 := Lib.hid ((HK.out.trans hk1).alloc (.cells #[] 44))
  have HR1 := Lib.hid (hR.keep HK1.out)
  have HO := Lib.hid (World.ownsRow_made (base := W1.heap.size) (e := 44) (size := 7) W1 #[] 0 (by simp) (by simp) rfl)
  have HS1 := Lib.hid hsW
  have hlt0 : w.heap.size < W1.heap.size := by omega
  have hji : (j : Int) < (zs.length : Int) := by omega
  have hw : IntKind.i32.wrap ((j : Int) + 1 - 1) = (j : Int) := by rw [IntKind.wrap_i32]; omega
  clear hk1 hB2 HB HB2 HK HH HY2 hR hsW
  go_wp2_with (at_builtin; refine wpList_append_nds rfl _ _ 28 rfl W1.heap.size 44 i0 (.agg #[.int .i32 0, .int .i32 0, .int .i64 0, .int .i64 0, .int .i64 0, .int .i64 0, .bool false]) 48 Try.underlying28 hi hz0 hz1 hz2 rfl (.slice (some ⟨W1.heap.size, 0, none⟩) 0 0) 0 [] rfl HO.out A zs.length c zs rfl rfl HR1.out hml hby (by simp) ?_; intro A4 c4 w4 hown4 hgrow4 hbl4; rw [List.nil_append, Nat.zero_add] at hown4; have HO4 := Lib.hid hown4; have HG4 := Lib.hid hgrow4; have hs4 := hgrow4.size; simp only [World.size_alloc] at hs4; have HX4 := Lib.hid (HB1.out.grown hgrow4 (by simp [Value.ownBlock]; omega)); have HY4 := Lib.hid (HB3.out.grown hgrow4 (by simp [Value.ownBlock]; omega)); have HN4 := Lib.hid ((hgrow4.block (w.heap.size + 1) (by simp; omega) (by simp [Value.ownBlock]; omega)).trans HY3.out); obtain ⟨g, rfl, hg1, hg2⟩ := own_addr hown4 (by omega); obtain ⟨hfr, a0, a1, a2, a3, a4, a5, a6⟩ := row_at hown4 j zs[j] (List.getElem?_eq_getElem hj); have f0 := hfr (j * 7); have f1 := hfr (j * 7 + 1); have f2 := hfr (j * 7 + 2); have f3 := hfr (j * 7 + 3); have f4 := hfr (j * 7 + 4); have f5 := hfr (j * 7 + 5); have f6 := hfr (j * 7 + 6); obtain ⟨b0, b1, b2, b3, b4, b5, b6⟩ := blk_cells HN4.out; clear hfr; clear hown4 hgrow4 hbl4; clear x0 x1 x2 x3; obtain ⟨x0, x1, x2, x3⟩ := HX4.out.cells; obtain ⟨y0, y1, y2, y3⟩ := HY4.out.cells)
  have hO : Only (fun k => w.heap.size ≤ k) (W1.alloc (.cells #[] 44)) w4 := (Only.refl _ _).grown HG4.out (fun k _ e => by simp [Value.ownBlock] at e; omega)
  have hk4 := Only.keep HK1.out hO (fun _ h => h)
  have hA : Only (fun k => k = w.heap.size) w4 (w4.setCell ⟨w.heap.size, 0, none⟩ (.slice (some ⟨g, 0, none⟩) zs.length c4)) := (Only.refl (fun k => k = w.heap.size) w4).setCell ⟨w.heap.size, 0, none⟩ _ rfl
  have rA := ownsRow_only HO4.out hA (fun g' e hk => by have := (HO4.out.lt g' e).1; omega)
  have rB := row_stored rA j y hj
  have hB : Only (fun k => k = w.heap.size ∨ k = g) w4 ((((((((w4.setCell ⟨w.heap.size, 0, none⟩ (.slice (some ⟨g, 0, none⟩) zs.length c4)).setCell ⟨g, j * 7, none⟩ (.int .i32 y.l)).setCell ⟨g, j * 7 + 1, none⟩ (.int .i32 y.r)).setCell ⟨g, j * 7 + 2, none⟩ (.int .i64 y.c)).setCell ⟨g, j * 7 + 3, none⟩ (.int .i64 y.s)).setCell ⟨g, j * 7 + 4, none⟩ (.int .i64 y.mn)).setCell ⟨g, j * 7 + 5, none⟩ (.int .i64 y.mx)).setCell ⟨g, j * 7 + 6, none⟩ (.bool y.k)) := row7_only (S := fun k => k = w.heap.size ∨ k = g) (hA.mono (fun _ _ h => .inl h)) (.inr rfl) (j * 7) y
  have bB := HY4.out.block (hB.block (w.heap.size + 1 + 1) HY4.out.lt (fun h => by omega))
  have hC : Only (fun k => k = w.heap.size + 1 + 1) ((((((((w4.setCell ⟨w.heap.size, 0, none⟩ (.slice (some ⟨g, 0, none⟩) zs.length c4)).setCell ⟨g, j * 7, none⟩ (.int .i32 y.l)).setCell ⟨g, j * 7 + 1, none⟩ (.int .i32 y.r)).setCell ⟨g, j * 7 + 2, none⟩ (.int .i64 y.c)).setCell ⟨g, j * 7 + 3, none⟩ (.int .i64 y.s)).setCell ⟨g, j * 7 + 4, none⟩ (.int .i64 y.mn)).setCell ⟨g, j * 7 + 5, none⟩ (.int .i64 y.mx)).setCell ⟨g, j * 7 + 6, none⟩ (.bool y.k)) ((((((((((w4.setCell ⟨w.heap.size, 0, none⟩ (.slice (some ⟨g, 0, none⟩) zs.length c4)).setCell ⟨g, j * 7, none⟩ (.int .i32 y.l)).setCell ⟨g, j * 7 + 1, none⟩ (.int .i32 y.r)).setCell ⟨g, j * 7 + 2, none⟩ (.int .i64 y.c)).setCell ⟨g, j * 7 + 3, none⟩ (.int .i64 y.s)).setCell ⟨g, j * 7 + 4, none⟩ (.int .i64 y.mn)).setCell ⟨g, j * 7 + 5, none⟩ (.int .i64 y.mx)).setCell ⟨g, j * 7 + 6, none⟩ (.bool y.k)).setCell ⟨w.heap.size + 1 + 1, 0, none⟩ (.slice (some ⟨g, 0, none⟩) zs.length c4)).setCell ⟨w.heap.size + 1 + 1, 1, none⟩ (.int .i64 lim)) := ((Only.refl (fun k => k = w.heap.size + 1 + 1) _).setCell ⟨w.heap.size + 1 + 1, 0, none⟩ _ rfl).setCell ⟨w.heap.size + 1 + 1, 1, none⟩ _ rfl
  have rC := ownsRow_only rB hC (fun g' e hk => by have := (rB.lt g' e).1; omega)
  have bC := bB.store (some ⟨g, 0, none⟩) zs.length c4 lim
  have hkF := Only.keep (Only.keep hk4 hB (fun k hk => by omega)) hC (fun k hk => by omega)
  generalize (((((((((w4.setCell ⟨w.heap.size, 0, none⟩ (.slice (some ⟨g, 0, none⟩) zs.length c4)).setCell ⟨g, j * 7, none⟩ (.int .i32 y.l)).setCell ⟨g, j * 7 + 1, none⟩ (.int .i32 y.r)).setCell ⟨g, j * 7 + 2, none⟩ (.int .i64 y.c)).setCell ⟨g, j * 7 + 3, none⟩ (.int .i64 y.s)).setCell ⟨g, j * 7 + 4, none⟩ (.int .i64 y.mn)).setCell ⟨g, j * 7 + 5, none⟩ (.int .i64 y.mx)).setCell ⟨g, j * 7 + 6, none⟩ (.bool y.k)).setCell ⟨w.heap.size + 1 + 1, 0, none⟩ (.slice (some ⟨g, 0, none⟩) zs.length c4)).setCell ⟨w.heap.size + 1 + 1, 1, none⟩ (.int .i64 lim) = WF at *
  obtain ⟨hRS, hfr⟩ := RS.of_row rC
  obtain ⟨z0, z1, _, _⟩ := bC.cells
  exact bodyPost_ret (v := .tuple #[.agg #[.slice (some ⟨g, 0, none⟩) zs.length c4, .int .i64 lim], .int .i64 0]) (by simp [results, Try.results13, go_sem, z0, z1]) rfl
    ⟨some ⟨g, 0, none⟩, c4, by rw [List.length_set]; rfl, hRS, hkF, fun b off e => by have := hfr b off e; omega⟩
end Go.Proofs.Ytdnhgfbchddabab
