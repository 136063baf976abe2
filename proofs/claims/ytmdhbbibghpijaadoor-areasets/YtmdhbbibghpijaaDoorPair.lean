/- Slices of structs of two numbers, wherever they lie; appending to such a row of one's own. Nothing of the program. -/
import Derived.Test.YtmdhbbibghpijaaDoorMem
import Derived.Maps.AppendAt
namespace Go.Proofs.YtmdhbbibghpijaaDoor
open Go.RowKit

theorem addr_add (b off q : Nat) : (⟨b, off, none⟩ : Addr).add q = ⟨b, off + q, none⟩ := by unfold Addr.add; split <;> simp_all

section
variable {α : Type} {f g : α → Value}
/-- The cells of a list of pairs. -/
def prc (f g : α → Value) (zs : List α) : List Value := zs.flatMap fun z => [f z, g z]
theorem prc_nil : prc f g [] = [] := rfl
theorem prc_append (xs ys : List α) : prc f g (xs ++ ys) = prc f g xs ++ prc f g ys := by simp [prc]
theorem prc_length : ∀ zs : List α, (prc f g zs).length = zs.length * 2
  | [] => rfl
  | z :: zs => by
    have := prc_length zs
    simp only [prc, List.flatMap_cons, List.length_append, List.length_cons, List.length_nil] at *
    omega
theorem prc_get : ∀ (zs : List α) (j : Nat) (z : α), zs[j]? = some z → (prc f g zs)[j * 2]? = some (f z) ∧ (prc f g zs)[j * 2 + 1]? = some (g z)
  | [], j, z, h => by cases h
  | y :: zs, 0, z, h => by
    obtain rfl : y = z := by simpa using h
    simp [prc]
  | y :: zs, j + 1, z, h => by
    have := prc_get zs j z (by simpa using h)
    have e : prc f g (y :: zs) = f y :: g y :: prc f g zs := rfl
    rw [e, show (j + 1) * 2 = j * 2 + 1 + 1 from by omega]
    simpa using this
theorem prc_one (h1 : ∀ z, (f z).oneCell' = true ∧ (g z).oneCell' = true) (zs : List α) : ∀ u ∈ prc f g zs, u.oneCell' = true := by
  intro u hu
  obtain ⟨z, _, hz⟩ := List.mem_flatMap.1 hu
  simp at hz
  rcases hz with rfl | rfl
  · exact (h1 z).1
  · exact (h1 z).2

/-- The slice at A of n pairs holds zs, in a block below B. -/
structure Prs (f g : α → Value) (w : World) (B : Nat) (A : Option Addr) (n : Nat) (zs : List α) : Prop where
  len : zs.length = n
  get : ∀ (j : Nat) (z : α), zs[j]? = some z → ∃ b off, A = some ⟨b, off, none⟩ ∧ b < B ∧ w.cell? ⟨b, off + j * 2, none⟩ = some (f z) ∧ w.cell? ⟨b, off + j * 2 + 1, none⟩ = some (g z)
theorem Prs.below {w w' : World} {B : Nat} {A : Option Addr} {n : Nat} {zs : List α} (h : Prs f g w B A n zs) (hb : Below B w w') : Prs f g w' B A n zs :=
  ⟨h.len, fun j z hj => by
    obtain ⟨b, off, e, hB, c0, c1⟩ := h.get j z hj
    exact ⟨b, off, e, hB, (hb.cell (p := ⟨b, off + j * 2, none⟩) hB).trans c0, (hb.cell (p := ⟨b, off + j * 2 + 1, none⟩) hB).trans c1⟩⟩
theorem Prs.more {w : World} {B B' : Nat} {A : Option Addr} {n : Nat} {zs : List α} (h : Prs f g w B A n zs) (hb : B ≤ B') : Prs f g w B' A n zs :=
  ⟨h.len, fun j z hj => by
    obtain ⟨b, off, e, hB, c⟩ := h.get j z hj
    exact ⟨b, off, e, by omega, c⟩⟩
theorem Prs.keep {w w' : World} {B : Nat} {A : Option Addr} {n : Nat} {zs : List α} (h : Prs f g w B A n zs) (hk : Keep w w') (hB : B ≤ w.heap.size) : Prs f g w' B A n zs :=
  ⟨h.len, fun j z hj => by
    obtain ⟨b, off, e, hb, c0, c1⟩ := h.get j z hj
    exact ⟨b, off, e, hb, (hk.cell (p := ⟨b, off + j * 2, none⟩) (Nat.lt_of_lt_of_le hb hB)).trans c0, (hk.cell (p := ⟨b, off + j * 2 + 1, none⟩) (Nat.lt_of_lt_of_le hb hB)).trans c1⟩⟩
theorem Prs.up {w w' : World} {A : Option Addr} {n : Nat} {zs : List α} (h : Prs f g w w.heap.size A n zs) (hk : Keep w w') : Prs f g w' w'.heap.size A n zs := (h.keep hk (Nat.le_refl _)).more hk.size
theorem Prs.nil (w : World) (B : Nat) (A : Option Addr) : Prs f g w B A 0 [] := ⟨rfl, fun j z h => by cases h⟩
theorem Prs.only {w w' : World} {S : Nat → Prop} {B : Nat} {A : Option Addr} {n : Nat} {zs : List α} (h : Prs f g w B A n zs) (ho : Only S w w') (hB : B ≤ w.heap.size) (hS : ∀ b off, A = some ⟨b, off, none⟩ → ¬ S b) : Prs f g w' B A n zs :=
  ⟨h.len, fun j z hj => by
    obtain ⟨b, off, e, hb, c0, c1⟩ := h.get j z hj
    exact ⟨b, off, e, hb, (World.cell?_of_block (a := ⟨b, off + j * 2, none⟩) (ho.block b (by omega) (hS b off e))).trans c0, (World.cell?_of_block (a := ⟨b, off + j * 2 + 1, none⟩) (ho.block b (by omega) (hS b off e))).trans c1⟩⟩
theorem Prs.of_row {w : World} {base : Nat} {e : TypeId} {v : Value} {n : Nat} {zs : List α} (h : w.ownsRow base e 2 v n (prc f g zs)) : ∃ A c, v = .slice A n c ∧ Prs f g w w.heap.size A n zs := by
  have hl : zs.length = n := by have := h.1; rw [prc_length] at this; omega
  rcases h.2 with ⟨rfl, rfl⟩ | ⟨gb, cap, cur, rfl, hb, hg, _⟩
  · obtain rfl : zs = [] := List.eq_nil_of_length_eq_zero hl
    exact ⟨none, 0, rfl, Prs.nil _ _ _⟩
  · refine ⟨_, cap, rfl, hl, fun j z hj => ⟨gb, 0, rfl, (Array.getElem?_eq_some_iff.1 hg).1, ?_⟩⟩
    obtain ⟨c0, c1⟩ := prc_get (f := f) (g := g) zs j z hj
    have r0 := h.cells (g := gb) rfl _ _ c0
    have r1 := h.cells (g := gb) rfl _ _ c1
    rw [addr_add] at r0 r1
    exact ⟨r0, r1⟩
theorem Prs.news {w : World} {B : Nat} {ad : Addr} {n : Nat} {zs : List α} (h : Prs f g w B (some ad) n zs) : ∀ j u, (prc f g zs)[j]? = some u → w.cell? (ad.add j) = some u := by
  intro j u hu
  have hj : j < zs.length * 2 := by have := (List.getElem?_eq_some_iff.1 hu).1; rwa [prc_length] at this
  have hz : zs[j / 2]? = some zs[j / 2] := List.getElem?_eq_getElem (by omega)
  obtain ⟨b, off, e, _, c0, c1⟩ := h.get (j / 2) _ hz
  cases e
  obtain ⟨p0, p1⟩ := prc_get (f := f) (g := g) zs _ _ hz
  rw [addr_add]
  rcases Nat.mod_two_eq_zero_or_one j with hm | hm
  · have ej : j / 2 * 2 = j := by omega
    rw [ej] at p0 c0
    rw [c0, ← p0, hu]
  · have ej : j / 2 * 2 + 1 = j := by omega
    rw [show off + j / 2 * 2 + 1 = off + j from by omega] at c1
    rw [ej] at p1
    rw [c1, ← p1, hu]
/-- A part of a slice: from i on, m of them. -/
theorem Prs.part {w : World} {B : Nat} {b off n : Nat} {zs : List α} (h : Prs f g w B (some ⟨b, off, none⟩) n zs) (i m : Nat) (hm : i + m ≤ n) : Prs f g w B (some ⟨b, off + i * 2, none⟩) m ((zs.drop i).take m) := by
  have hl := h.len
  refine ⟨by simp; omega, fun j z hj => ?_⟩
  have hjm : j < m := by
    have := (List.getElem?_eq_some_iff.1 hj).1
    simp at this
    omega
  rw [List.getElem?_take, if_pos hjm, List.getElem?_drop] at hj
  obtain ⟨b', off', e, hB, c0, c1⟩ := h.get _ z hj
  cases e
  refine ⟨b, off + i * 2, rfl, hB, ?_, ?_⟩
  · rw [← c0]; congr 2; omega
  · rw [← c1]; congr 2; omega

theorem Prs.made (w : World) (cur : Array Value) (t : TypeId) (zs : List α) (h : cur.toList = prc f g zs) : Prs f g (w.alloc (.cells cur t)) (w.alloc (.cells cur t)).heap.size (some ⟨w.heap.size, 0, none⟩) zs.length zs := by
  refine ⟨rfl, fun j z hj => ⟨w.heap.size, 0, rfl, by simp, ?_⟩⟩
  obtain ⟨c0, c1⟩ := prc_get (f := f) (g := g) zs j z hj
  have hb := World.alloc_heap_new w (.cells cur t)
  rw [← h] at c0 c1
  simp only [Array.getElem?_toList] at c0 c1
  unfold World.cell?
  dsimp only
  rw [hb]
  simp [c0, c1]

variable {P : Program} {w : World}
/-- append(v, x...) onto a row of the call's own, whatever x is: nil, empty or not. -/
theorem run_append_prs (base : Nat) (t ty e : TypeId) (i : TypeInfo) (z : Value) (bytes : Nat) (ht : P.underlying t = some (.slice e)) (hi : P.info? e = some i) (hz : i.zero = some z)
    (hsize : i.size = 2) (hby : i.bytes = bytes) (hzs : z.cells.size = 2) (h1 : ∀ z, (f z).oneCell' = true ∧ (g z).oneCell' = true)
    (v : Value) (n : Nat) (xs : List Value) (hown : w.ownsRow base e 2 v n xs)
    (B : Nat) (A : Option Addr) (m c : Nat) (news : List α) (hl : Prs f g w B A m news) (hnil : A = none → c = 0)
    (h63 : n + m ≤ maxLen) (hbytes : (n + m) * bytes ≤ 140737488355328) (hbase : base ≤ w.heap.size) :
    ∃ v' w', (Builtin.append_ #[t, t] ty #[v, .slice A m c]).run P w = .ok v' w' ∧ w'.ownsRow base e 2 v' (n + m) (xs ++ prc f g news) ∧ w.grownBy w' v.ownBlock ∧ (v'.ownBlock = v.ownBlock ∨ v'.ownBlock = some w.heap.size) := by
  rcases A with _ | ad
  · obtain rfl := hnil rfl
    have hn : news = [] := by
      cases news with
      | nil => rfl
      | cons y ys => obtain ⟨_, _, e, _⟩ := hl.get 0 y rfl; cases e
    subst hn
    obtain rfl : m = 0 := by rw [← hl.len]; rfl
    exact ⟨v, w, run_append_owned_none (P := P) (w := w) base t ty e i 2 ht hi v n xs hown, by simpa [prc_nil] using hown, World.grownBy.refl w _, .inl rfl⟩
  · obtain ⟨v', w', hr, h2, h3, _, h5⟩ := run_append_own_at (P := P) w base t ty e i z 2 bytes ht hi hz hsize hby hzs (by decide) v n xs hown ad m c (prc f g news) (by rw [prc_length, hl.len]) hl.news (prc_one h1 news) h63 hbytes hbase
    exact ⟨v', w', hr, h2, h3, h5⟩

theorem wpList_append_prs {ops : Array Oper} {rest : List Oper} {o : Oper} {a : Act} {Q : Exit → Act → World → Prop} (hgd : o.guard = none) (s x : Operand) (t : TypeId)
    (ho : o.op = .call { callee := .builtin .append, args := #[s, x], argTypes := #[t, t] })
    (base : Nat) (e : TypeId) (i : TypeInfo) (z : Value) (bytes : Nat) (ht : P.underlying t = some (.slice e)) (hi : P.info? e = some i) (hz : i.zero = some z)
    (hsize : i.size = 2) (hby : i.bytes = bytes) (hzs : z.cells.size = 2) (h1 : ∀ z, (f z).oneCell' = true ∧ (g z).oneCell' = true)
    (v : Value) (n : Nat) (xs : List α) (hs : a.eval s = v) (hown : w.ownsRow base e 2 v n (prc f g xs))
    (B : Nat) (A : Option Addr) (m c : Nat) (news : List α) (hx : a.eval x = .slice A m c) (hl : Prs f g w B A m news) (hnil : A = none → c = 0)
    (h63 : n + m ≤ maxLen) (hbytes : (n + m) * bytes ≤ 140737488355328) (hbase : base ≤ w.heap.size)
    (h : ∀ A' c' w', w'.ownsRow base e 2 (.slice A' (n + m) c') (n + m) (prc f g (xs ++ news)) → w.grownBy w' v.ownBlock → ((Value.slice A' (n + m) c').ownBlock = v.ownBlock ∨ (Value.slice A' (n + m) c').ownBlock = some w.heap.size) → wpList P ops Q rest (a.put o.dst (.slice A' (n + m) c')) w') :
    wpList P ops Q (o :: rest) a w := by
  refine wpList_plain hgd fun K hK => ?_
  obtain ⟨v', w', hr, h2, h3, h5⟩ := run_append_prs (P := P) (w := w) (f := f) (g := g) base t o.type e i z bytes ht hi hz hsize hby hzs h1 v n _ hown B A m c news hl hnil h63 hbytes hbase
  rw [← prc_append] at h2
  obtain ⟨A', c', rfl, _⟩ := Prs.of_row h2
  unfold Oper.wp execOp
  simp only [ho, resolve, invoke, builtin, Sem.run_bind, Sem.run_pure, Result.andThen_ok, List.map_toArray, List.map_cons, List.map_nil, hs, hx, hr]
  exact hK _ _ (h A' c' w' h2 h3 h5)
end
end Go.Proofs.YtmdhbbibghpijaaDoor
