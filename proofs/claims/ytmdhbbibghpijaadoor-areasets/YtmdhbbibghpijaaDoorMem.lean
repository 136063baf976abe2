/- Words for memory: what is kept, what lies where. Nothing of the program. -/
import Derived.WalkKit
import Derived.WalkSpells
import Derived.WalkLawsBesides
import Derived.RangeFuncBox
import Derived.Deep.AppendLies
import Derived.Laws.AppendOwnNone
import Derived.Lib.Hide
import Derived.Laws.BytesArg
namespace Go.Proofs.YtmdhbbibghpijaaDoor
open Go.RowKit

theorem ret_int {k : IntKind} {a b : Int} (h : a = b) : Ending.returned (.int k a) = .returned (.int k b) := by rw [h]

/-- Nothing that lay has turned. -/
def Keep (w w' : World) : Prop := Below w.heap.size w w'
theorem Keep.refl (w : World) : Keep w w := Below.refl _ _
theorem Keep.trans {a b c : World} (h : Keep a b) (h' : Keep b c) : Keep a c := Below.trans h (Below.mono h' h.size)
theorem Keep.alloc {a b : World} (h : Keep a b) (o : Obj) : Keep a (b.alloc o) := Below.alloc h h.size o
theorem Keep.drew {a b : World} (h : Keep a b) : Keep a b.drew := h.trans ⟨rfl, rfl, rfl, Nat.le_refl _, fun _ _ => rfl⟩
theorem Keep.drewN {a b : World} (h : Keep a b) (n : Nat) : Keep a (b.drewN n) := below_drewN h n

/-- Only blocks of S may have turned, of those that lay. -/
structure Only (S : Nat → Prop) (w w' : World) : Prop where
  os : w'.os = w.os
  tape : w'.tape = w.tape
  output : w'.output = w.output
  size : w.heap.size ≤ w'.heap.size
  block : ∀ k, k < w.heap.size → ¬ S k → w'.heap[k]? = w.heap[k]?

theorem Only.refl (S : Nat → Prop) (w : World) : Only S w w := ⟨rfl, rfl, rfl, Nat.le_refl _, fun _ _ _ => rfl⟩
theorem Only.trans {S T : Nat → Prop} {a b c : World} (h : Only S a b) (h' : Only T b c) (hT : ∀ k, k < a.heap.size → T k → S k) : Only S a c :=
  ⟨h'.os.trans h.os, h'.tape.trans h.tape, h'.output.trans h.output, Nat.le_trans h.size h'.size,
   fun k hk hs => (h'.block k (Nat.lt_of_lt_of_le hk h.size) (fun t => hs (hT k hk t))).trans (h.block k hk hs)⟩
theorem Only.mono {S T : Nat → Prop} {a b : World} (h : Only S a b) (hT : ∀ k, k < a.heap.size → S k → T k) : Only T a b :=
  ⟨h.os, h.tape, h.output, h.size, fun k hk ht => h.block k hk (fun s => ht (hT k hk s))⟩
theorem Only.of_keep {a b : World} (S : Nat → Prop) (h : Keep a b) : Only S a b := ⟨h.os, h.tape, h.output, h.size, fun k hk _ => h.block k hk⟩
theorem Only.below {S : Nat → Prop} {a b : World} {B : Nat} (h : Only S a b) (hB : B ≤ a.heap.size) (hS : ∀ k, S k → B ≤ k) : Below B a b :=
  ⟨h.os, h.tape, h.output, h.size, fun k hk => h.block k (Nat.lt_of_lt_of_le hk hB) (fun s => by have := hS k s; omega)⟩
theorem Only.keep {S : Nat → Prop} {a b c : World} (h : Keep a b) (h' : Only S b c) (hS : ∀ k, S k → a.heap.size ≤ k) : Keep a c :=
  Below.trans h (h'.below h.size hS)
theorem Only.alloc {S : Nat → Prop} {a b : World} (h : Only S a b) (o : Obj) : Only S a (b.alloc o) :=
  h.trans (Only.of_keep (fun _ => False) ((Keep.refl b).alloc o)) (fun _ _ h => h.elim)
theorem Only.drew {S : Nat → Prop} {a b : World} (h : Only S a b) : Only S a b.drew :=
  h.trans (Only.of_keep (fun _ => False) ((Keep.refl b).drew)) (fun _ _ h => h.elim)
theorem Only.setCell {S : Nat → Prop} {a b : World} (h : Only S a b) (p : Addr) (v : Value) (hp : S p.block) : Only S a (b.setCell p v) :=
  h.trans (T := fun k => k = p.block) ⟨rfl, rfl, rfl, (KeepsWalks.setCell b p v).size, fun k _ hk => Below.heap_setCell _ _ _ k hk⟩ (fun k _ e => by rw [e]; exact hp)
theorem Only.grown {S : Nat → Prop} {a b c : World} {row : Option Nat} (h : Only S a b) (hg : b.grownBy c row) (hr : ∀ k, k < a.heap.size → row = some k → S k) : Only S a c :=
  h.trans (T := fun k => row = some k) ⟨hg.os, hg.tape, hg.output, hg.size, fun k hk hn => hg.block k hk (fun e => hn e.symm)⟩ hr

/-- The slice at A of length n holds xs, each in one cell, in a block below B. -/
def Lies (w : World) (B : Nat) (A : Option Addr) (n : Nat) (xs : List Value) : Prop :=
  xs.length = n ∧ (0 < n → ∃ b off, A = some ⟨b, off, none⟩ ∧ b < B ∧ ∀ k, k < n → w.cell? ⟨b, off + k, none⟩ = some (xs.getD k undef))
theorem Lies.below {w w' : World} {B : Nat} {A : Option Addr} {n : Nat} {xs : List Value} (h : Lies w B A n xs) (hb : Below B w w') : Lies w' B A n xs :=
  ⟨h.1, fun hn => by
    obtain ⟨b, off, e, hB, hc⟩ := h.2 hn
    exact ⟨b, off, e, hB, fun k hk => (hb.cell (p := ⟨b, off + k, none⟩) hB).trans (hc k hk)⟩⟩
theorem Lies.more {w : World} {B B' : Nat} {A : Option Addr} {n : Nat} {xs : List Value} (h : Lies w B A n xs) (hb : B ≤ B') : Lies w B' A n xs :=
  ⟨h.1, fun hn => by
    obtain ⟨b, off, e, hB, hc⟩ := h.2 hn
    exact ⟨b, off, e, by omega, hc⟩⟩
theorem Lies.only {w w' : World} {S : Nat → Prop} {B : Nat} {A : Option Addr} {n : Nat} {xs : List Value} (h : Lies w B A n xs) (ho : Only S w w') (hB : B ≤ w.heap.size) (hS : ∀ b off, A = some ⟨b, off, none⟩ → ¬ S b) : Lies w' B A n xs :=
  ⟨h.1, fun hn => by
    obtain ⟨b, off, e, hb, hc⟩ := h.2 hn
    exact ⟨b, off, e, hb, fun k hk => (World.cell?_of_block (a := ⟨b, off + k, none⟩) (ho.block b (by omega) (hS b off e))).trans (hc k hk)⟩⟩
theorem Lies.nil (w : World) (B : Nat) (A : Option Addr) : Lies w B A 0 [] := ⟨rfl, fun h => by omega⟩
theorem Lies.of_row {w : World} {base : Nat} {e : TypeId} {v : Value} {n : Nat} {xs : List Value} (h : w.ownsRow base e 1 v n xs) : ∃ A c, v = .slice A n c ∧ Lies w w.heap.size A n xs := by
  rcases h.2 with ⟨rfl, rfl⟩ | ⟨g, cap, cur, rfl, hb, hg, _⟩
  · exact ⟨none, 0, rfl, by simpa using h.1, fun h0 => by omega⟩
  · refine ⟨_, cap, rfl, by simpa using h.1, fun _ => ⟨g, 0, rfl, (Array.getElem?_eq_some_iff.1 hg).1, fun k hk => ?_⟩⟩
    have hl : k < xs.length := by have := h.1; omega
    have := h.cells (g := g) rfl k xs[k] (List.getElem?_eq_getElem hl)
    have e2 : (⟨g, 0, none⟩ : Addr).add k = ⟨g, 0 + k, none⟩ := by unfold Addr.add; split <;> simp_all
    rw [← e2, this, List.getD_eq_getElem?_getD, List.getElem?_eq_getElem hl]; rfl
/-- A part of a slice: from i on, m of them. -/
theorem Lies.part {w : World} {B : Nat} {b off n : Nat} {xs : List Value} (h : Lies w B (some ⟨b, off, none⟩) n xs) (i m : Nat) (hm : i + m ≤ n) : Lies w B (some ⟨b, off + i, none⟩) m ((xs.drop i).take m) := by
  have hl := h.1
  refine ⟨by simp; omega, fun hp => ?_⟩
  obtain ⟨b', off', e, hB, hc⟩ := h.2 (by omega)
  cases e
  refine ⟨b, off + i, rfl, hB, fun k hk => ?_⟩
  rw [Nat.add_assoc, hc (i + k) (by omega)]
  simp [List.getD_eq_getElem?_getD, List.getElem?_drop, hk]
/-- What an append from it asks. -/
theorem Lies.news {w : World} {B : Nat} {b off n : Nat} {xs : List Value} (h : Lies w B (some ⟨b, off, none⟩) n xs) : ∀ j u, xs[j]? = some u → w.cell? ((⟨b, off, none⟩ : Addr).add j) = some u := by
  intro j u hu
  have hj : j < n := by have := (List.getElem?_eq_some_iff.1 hu).1; have := h.1; omega
  obtain ⟨b', off', e, hB, hc⟩ := h.2 (by omega)
  cases e
  have e2 : (⟨b, off, none⟩ : Addr).add j = ⟨b, off + j, none⟩ := by unfold Addr.add; split <;> simp_all
  rw [e2, hc j hj, List.getD_eq_getElem?_getD, hu]; rfl

theorem ownsRow_le {w : World} {base base' : Nat} {e : TypeId} {size : Nat} {v : Value} {n : Nat} {xs : List Value} (h : w.ownsRow base e size v n xs) (hb : base' ≤ base) : w.ownsRow base' e size v n xs := by
  refine ⟨h.1, ?_⟩
  rcases h.2 with h2 | ⟨g, cap, cur, a, b, c⟩
  · exact .inl h2
  · exact .inr ⟨g, cap, cur, a, Nat.le_trans hb b, c⟩
theorem ownsRow_only {w w' : World} {S : Nat → Prop} {base : Nat} {e : TypeId} {size : Nat} {v : Value} {n : Nat} {xs : List Value} (h : w.ownsRow base e size v n xs) (ho : Only S w w') (hS : ∀ g, v.ownBlock = some g → ¬ S g) : w'.ownsRow base e size v n xs := by
  refine ⟨h.1, ?_⟩
  rcases h.2 with h2 | ⟨g, cap, cur, rfl, b, c, d⟩
  · exact .inl h2
  · exact .inr ⟨g, cap, cur, rfl, b, (ho.block g (Array.getElem?_eq_some_iff.1 c).1 (hS g rfl)).trans c, d⟩
theorem Boxed.only {w w' : World} {S : Nat → Prop} {b : Nat} {t : TypeId} {v : Value} (h : Boxed w b t v) (ho : Only S w w') (hS : ¬ S b) : Boxed w' b t v := (ho.block b h.lt hS).trans h

/-- Numbers of a kind, as values. -/
def vals (k : IntKind) (zs : List Int) : List Value := zs.map fun z => Value.int k z
theorem vals_length (k : IntKind) (zs : List Int) : (vals k zs).length = zs.length := by simp [vals]
theorem vals_append (k : IntKind) (a b : List Int) : vals k (a ++ b) = vals k a ++ vals k b := by simp [vals]
theorem vals_one (k : IntKind) : ∀ (zs : List Int), ∀ u ∈ vals k zs, u.oneCell' = true := by
  intro zs u hu
  obtain ⟨z, _, rfl⟩ := List.mem_map.1 hu
  rfl
theorem vals_getD (k : IntKind) (zs : List Int) (i : Nat) (h : i < zs.length) : (vals k zs).getD i undef = .int k (zs.getD i 0) := by
  simp [vals, List.getD_eq_getElem?_getD, h]
theorem vals_part (k : IntKind) (zs : List Int) (i m : Nat) : ((vals k zs).drop i).take m = vals k ((zs.drop i).take m) := by simp [vals, List.map_take, List.map_drop]

section
variable {P : Program} {w : World}
/-- append(v, x...) onto a row of the call's own, whatever x is: nil, empty or not. -/
theorem run_append_from (base : Nat) (t ty e : TypeId) (i : TypeInfo) (z : Value) (bytes : Nat) (ht : P.underlying t = some (.slice e)) (hi : P.info? e = some i) (hz : i.zero = some z)
    (hsize : i.size = 1) (hby : i.bytes = bytes) (hzs : z.cells.size = 1)
    (v : Value) (n : Nat) (xs : List Value) (hown : w.ownsRow base e 1 v n xs)
    (B : Nat) (A : Option Addr) (m c : Nat) (news : List Value) (hl : Lies w B A m news) (hnil : A = none → c = 0) (h1 : ∀ u ∈ news, u.oneCell' = true)
    (h63 : n + m ≤ maxLen) (hbytes : (n + m) * bytes ≤ 140737488355328) (hbase : base ≤ w.heap.size) :
    ∃ v' w', (Builtin.append_ #[t, t] ty #[v, .slice A m c]).run P w = .ok v' w' ∧ w'.ownsRow base e 1 v' (n + m) (xs ++ news) ∧ w.grownBy w' v.ownBlock ∧ (v'.ownBlock = v.ownBlock ∨ v'.ownBlock = some w.heap.size) := by
  rcases A with _ | ad
  · obtain rfl := hnil rfl
    have hm : m = 0 := by
      apply Nat.eq_zero_of_not_pos
      intro hp
      obtain ⟨_, _, e, _⟩ := hl.2 hp
      cases e
    subst hm
    have hn : news = [] := List.eq_nil_of_length_eq_zero hl.1
    subst hn
    exact ⟨v, w, run_append_owned_none (P := P) (w := w) base t ty e i 1 ht hi v n xs hown, by simpa using hown, World.grownBy.refl w _, .inl rfl⟩
  · have hnews : ∀ j u, news[j]? = some u → w.cell? (ad.add j) = some u := by
      intro j u hu
      have hj : j < m := by have := (List.getElem?_eq_some_iff.1 hu).1; have := hl.1; omega
      obtain ⟨b, off, e, _, _⟩ := hl.2 (by omega)
      cases e
      exact hl.news j u hu
    obtain ⟨v', w', hr, h2, h3, _, h5⟩ := run_append_own_at (P := P) w base t ty e i z 1 bytes ht hi hz hsize hby hzs (by decide) v n xs hown ad m c news (by rw [hl.1]; omega) hnews h1 h63 hbytes hbase
    exact ⟨v', w', hr, h2, h3, h5⟩

theorem wpList_append_from {ops : Array Oper} {rest : List Oper} {o : Oper} {a : Act} {Q : Exit → Act → World → Prop} (hgd : o.guard = none) (s x : Operand) (t : TypeId)
    (ho : o.op = .call { callee := .builtin .append, args := #[s, x], argTypes := #[t, t] })
    (base : Nat) (e : TypeId) (i : TypeInfo) (z : Value) (bytes : Nat) (ht : P.underlying t = some (.slice e)) (hi : P.info? e = some i) (hz : i.zero = some z)
    (hsize : i.size = 1) (hby : i.bytes = bytes) (hzs : z.cells.size = 1)
    (v : Value) (n : Nat) (xs : List Value) (hs : a.eval s = v) (hown : w.ownsRow base e 1 v n xs)
    (B : Nat) (A : Option Addr) (m c : Nat) (news : List Value) (hx : a.eval x = .slice A m c) (hl : Lies w B A m news) (hnil : A = none → c = 0) (h1 : ∀ u ∈ news, u.oneCell' = true)
    (h63 : n + m ≤ maxLen) (hbytes : (n + m) * bytes ≤ 140737488355328) (hbase : base ≤ w.heap.size)
    (h : ∀ A' c' w', w'.ownsRow base e 1 (.slice A' (n + m) c') (n + m) (xs ++ news) → w.grownBy w' v.ownBlock → ((Value.slice A' (n + m) c').ownBlock = v.ownBlock ∨ (Value.slice A' (n + m) c').ownBlock = some w.heap.size) → wpList P ops Q rest (a.put o.dst (.slice A' (n + m) c')) w') :
    wpList P ops Q (o :: rest) a w := by
  refine wpList_plain hgd fun K hK => ?_
  obtain ⟨v', w', hr, h2, h3, h5⟩ := run_append_from (P := P) (w := w) base t o.type e i z bytes ht hi hz hsize hby hzs v n xs hown B A m c news hl hnil h1 h63 hbytes hbase
  obtain ⟨A', c', rfl, _⟩ := Lies.of_row h2
  unfold Oper.wp execOp
  simp only [ho, resolve, invoke, builtin, Sem.run_bind, Sem.run_pure, Result.andThen_ok, List.map_toArray, List.map_cons, List.map_nil, hs, hx, hr]
  exact hK _ _ (h A' c' w' h2 h3 h5)
end
end Go.Proofs.YtmdhbbibghpijaaDoor
