/- Nodes in memory: seven cells each; rows of them; an arena. -/
import Derived.Test.YtopengbflnoneaaProg
import Derived.Test.YtopengbflnoneaaMem
import Derived.Maps.AppendAt
import Derived.Laws.OwnMore
namespace Go.Proofs.Ytopengbflnoneaa
open Go.RowKit

theorem addr_add (b off q : Nat) : (⟨b, off, none⟩ : Addr).add q = ⟨b, off + q, none⟩ := by unfold Addr.add; split <;> simp_all

structure Nd where
  l : Int
  r : Int
  c : Int
  s : Int
  mn : Int
  mx : Int
  k : Bool
def Nd.zero : Nd := ⟨0, 0, 0, 0, 0, 0, false⟩
/-- Its seven cells. -/
def ndc (z : Nd) : List Value := [.int .i32 z.l, .int .i32 z.r, .int .i64 z.c, .int .i64 z.s, .int .i64 z.mn, .int .i64 z.mx, .bool z.k]
def nds (zs : List Nd) : List Value := zs.flatMap ndc
theorem nds_nil : nds [] = [] := rfl
theorem nds_append (xs ys : List Nd) : nds (xs ++ ys) = nds xs ++ nds ys := by simp [nds]
theorem nds_cons (z : Nd) (zs : List Nd) : nds (z :: zs) = ndc z ++ nds zs := rfl
theorem ndc_length (z : Nd) : (ndc z).length = 7 := rfl
theorem nds_length : ∀ zs : List Nd, (nds zs).length = zs.length * 7
  | [] => rfl
  | z :: zs => by
    rw [nds_cons, List.length_append, ndc_length, nds_length zs, List.length_cons]
    omega
theorem nds_get : ∀ (zs : List Nd) (j : Nat) (z : Nd), zs[j]? = some z → ∀ i, i < 7 → (nds zs)[j * 7 + i]? = (ndc z)[i]?
  | [], j, z, h => by cases h
  | y :: zs, 0, z, h => by
    obtain rfl : y = z := by simpa using h
    intro i hi
    rw [nds_cons, Nat.zero_mul, Nat.zero_add, List.getElem?_append_left (by rw [ndc_length]; exact hi)]
  | y :: zs, j + 1, z, h => by
    intro i hi
    have := nds_get zs j z (by simpa using h) i hi
    rw [nds_cons, List.getElem?_append_right (by rw [ndc_length]; omega), ndc_length, show (j + 1) * 7 + i - 7 = j * 7 + i from by omega, this]
theorem nds_one (zs : List Nd) : ∀ u ∈ nds zs, u.oneCell' = true := by
  intro u hu
  obtain ⟨z, _, hz⟩ := List.mem_flatMap.1 hu
  simp [ndc] at hz
  rcases hz with rfl | rfl | rfl | rfl | rfl | rfl | rfl <;> rfl
/-- One node set, cell by cell. -/
theorem nds_set : ∀ (zs : List Nd) (j : Nat) (y : Nd), j < zs.length →
    (((((((nds zs).set (j * 7) (.int .i32 y.l)).set (j * 7 + 1) (.int .i32 y.r)).set (j * 7 + 2) (.int .i64 y.c)).set (j * 7 + 3) (.int .i64 y.s)).set (j * 7 + 4) (.int .i64 y.mn)).set (j * 7 + 5) (.int .i64 y.mx)).set (j * 7 + 6) (.bool y.k) = nds (zs.set j y)
  | [], j, y, h => by simp at h
  | z :: zs, 0, y, h => by simp [nds, ndc]
  | z :: zs, j + 1, y, h => by
    have := nds_set zs j y (by simpa using h)
    have e : ∀ q, (j + 1) * 7 + q = j * 7 + q + 7 := by intro q; omega
    have e0 : (j + 1) * 7 = j * 7 + 7 := by omega
    rw [List.set_cons_succ, nds_cons, nds_cons, ← this, e, e, e, e, e, e, e0]
    simp [ndc]

/-- A node that lies in block b. -/
def NdAt (w : World) (b : Nat) (z : Nd) : Prop := w.heap[b]? = some (.cells #[.int .i32 z.l, .int .i32 z.r, .int .i64 z.c, .int .i64 z.s, .int .i64 z.mn, .int .i64 z.mx, .bool z.k] 96 (0, 0))
theorem NdAt.new (w : World) (z : Nd) : NdAt (w.alloc (.cells #[.int .i32 z.l, .int .i32 z.r, .int .i64 z.c, .int .i64 z.s, .int .i64 z.mn, .int .i64 z.mx, .bool z.k] 96)) w.heap.size z := World.alloc_heap_new _ _
theorem NdAt.lt {w : World} {b : Nat} {z : Nd} (h : NdAt w b z) : b < w.heap.size := (Array.getElem?_eq_some_iff.1 h).1
theorem NdAt.keep {w w' : World} {b : Nat} {z : Nd} (h : NdAt w b z) (hk : Keep w w') : NdAt w' b z := (hk.block b h.lt).trans h
theorem NdAt.only {w w' : World} {S : Nat → Prop} {b : Nat} {z : Nd} (h : NdAt w b z) (ho : Only S w w') (hS : ¬ S b) : NdAt w' b z := (ho.block b h.lt hS).trans h
theorem NdAt.cells {w : World} {b : Nat} {z : Nd} (h : NdAt w b z) : w.cell? ⟨b, 0, none⟩ = some (.int .i32 z.l) ∧ w.cell? ⟨b, 1, none⟩ = some (.int .i32 z.r) ∧ w.cell? ⟨b, 2, none⟩ = some (.int .i64 z.c) ∧ w.cell? ⟨b, 3, none⟩ = some (.int .i64 z.s) ∧ w.cell? ⟨b, 4, none⟩ = some (.int .i64 z.mn) ∧ w.cell? ⟨b, 5, none⟩ = some (.int .i64 z.mx) ∧ w.cell? ⟨b, 6, none⟩ = some (.bool z.k) := by
  unfold NdAt at h
  simp [World.cell?, h]
theorem NdAt.free {w : World} {b : Nat} {z : Nd} (h : NdAt w b z) : w.frozen? ⟨b, 0, none⟩ = false ∧ w.frozen? ⟨b, 1, none⟩ = false ∧ w.frozen? ⟨b, 2, none⟩ = false ∧ w.frozen? ⟨b, 3, none⟩ = false ∧ w.frozen? ⟨b, 4, none⟩ = false ∧ w.frozen? ⟨b, 5, none⟩ = false ∧ w.frozen? ⟨b, 6, none⟩ = false := by
  unfold NdAt at h
  simp [World.frozen?, h]
theorem NdAt.cells0 {w : World} {b : Nat} (h : NdAt w b Nd.zero) : w.cell? ⟨b, 0, none⟩ = some (.int .i32 0) ∧ w.cell? ⟨b, 1, none⟩ = some (.int .i32 0) ∧ w.cell? ⟨b, 2, none⟩ = some (.int .i64 0) ∧ w.cell? ⟨b, 3, none⟩ = some (.int .i64 0) ∧ w.cell? ⟨b, 4, none⟩ = some (.int .i64 0) ∧ w.cell? ⟨b, 5, none⟩ = some (.int .i64 0) ∧ w.cell? ⟨b, 6, none⟩ = some (.bool false) := h.cells
theorem NdAt.stored {w : World} {b : Nat} {z : Nd} (h : NdAt w b z) (y : Nd) : NdAt (((((((w.setCell ⟨b, 0, none⟩ (.int .i32 y.l)).setCell ⟨b, 1, none⟩ (.int .i32 y.r)).setCell ⟨b, 2, none⟩ (.int .i64 y.c)).setCell ⟨b, 3, none⟩ (.int .i64 y.s)).setCell ⟨b, 4, none⟩ (.int .i64 y.mn)).setCell ⟨b, 5, none⟩ (.int .i64 y.mx)).setCell ⟨b, 6, none⟩ (.bool y.k)) b y := by
  have hb := h.lt
  unfold NdAt at *
  simp only [World.setCell, Array.getElem?_modify, h, if_true, Option.map_some]
  rfl
theorem set7_only {S : Nat → Prop} {v w : World} {b : Nat} (h : Only S v w) (hb : S b) (y : Nd) : Only S v (((((((w.setCell ⟨b, 0, none⟩ (.int .i32 y.l)).setCell ⟨b, 1, none⟩ (.int .i32 y.r)).setCell ⟨b, 2, none⟩ (.int .i64 y.c)).setCell ⟨b, 3, none⟩ (.int .i64 y.s)).setCell ⟨b, 4, none⟩ (.int .i64 y.mn)).setCell ⟨b, 5, none⟩ (.int .i64 y.mx)).setCell ⟨b, 6, none⟩ (.bool y.k)) :=
  ((((((h.setCell _ _ hb).setCell _ _ hb).setCell _ _ hb).setCell _ _ hb).setCell _ _ hb).setCell _ _ hb).setCell _ _ hb
theorem set7_keep {v w : World} {b : Nat} (h : Keep v w) (hb : v.heap.size ≤ b) (y : Nd) : Keep v (((((((w.setCell ⟨b, 0, none⟩ (.int .i32 y.l)).setCell ⟨b, 1, none⟩ (.int .i32 y.r)).setCell ⟨b, 2, none⟩ (.int .i64 y.c)).setCell ⟨b, 3, none⟩ (.int .i64 y.s)).setCell ⟨b, 4, none⟩ (.int .i64 y.mn)).setCell ⟨b, 5, none⟩ (.int .i64 y.mx)).setCell ⟨b, 6, none⟩ (.bool y.k)) :=
  Only.keep h (set7_only (S := fun k => k = b) (Only.refl _ w) rfl y) (fun k hk => by omega)

/-- Nodes by their numbers. -/
def nums : Nat → List Nd → List (Int × Nd)
  | _, [] => []
  | k, z :: zs => ((k : Int) + 1, z) :: nums (k + 1) zs
theorem nums_length : ∀ (k : Nat) (zs : List Nd), (nums k zs).length = zs.length
  | _, [] => rfl
  | k, z :: zs => by simp [nums, nums_length (k + 1) zs]
theorem nums_get : ∀ (k : Nat) (zs : List Nd) (j : Nat) (z : Nd), zs[j]? = some z → (nums k zs)[j]? = some (((k + j : Nat) : Int) + 1, z)
  | _, [], j, z, h => by cases h
  | k, y :: zs, 0, z, h => by
    obtain rfl : y = z := by simpa using h
    simp [nums]
  | k, y :: zs, j + 1, z, h => by
    have := nums_get (k + 1) zs j z (by simpa using h)
    simp only [nums, List.getElem?_cons_succ, this]
    rw [show k + 1 + j = k + (j + 1) from by omega]
theorem nums_snd : ∀ (k : Nat) (zs : List Nd), (nums k zs).map (·.2) = zs
  | _, [] => rfl
  | k, z :: zs => by simp [nums, nums_snd (k + 1) zs]
theorem nums_take (zs : List Nd) (q : Nat) (z : Nd) (h : zs[q]? = some z) : (nums 0 zs).take (q + 1) = (nums 0 zs).take q ++ [((q : Int) + 1, z)] := by
  rw [List.take_add_one, nums_get 0 zs q z h]
  simp

/-- An arena in the first two cells of block b. -/
structure Ar (w : World) (b lim : Nat) (A : Option Addr) (c : Nat) (xs : List Nd) : Prop where
  lim0 : w.cell? ⟨b, 0, none⟩ = some (.int .i64 lim)
  row : w.cell? ⟨b, 1, none⟩ = some (.slice A xs.length c)
  free : w.frozen? ⟨b, 1, none⟩ = false
  own : w.ownsRow (b + 1) 96 7 (.slice A xs.length c) xs.length (nds xs)
  lt : b < w.heap.size
  fits : xs.length ≤ lim
  low : 1 ≤ lim
  top : lim ≤ 4194304
theorem Ar.block_ne {w : World} {b lim : Nat} {A : Option Addr} {c : Nat} {xs : List Nd} (h : Ar w b lim A c xs) (k : Nat) (hk : k ≤ b) : (Value.slice A xs.length c).ownBlock ≠ some k := by
  intro e
  have := (h.own.lt k e).1
  omega
theorem frozen_of_block {w w' : World} {a : Addr} (h : w'.heap[a.block]? = w.heap[a.block]?) : w'.frozen? a = w.frozen? a := by
  unfold World.frozen?
  rw [h]
theorem Ar.only {w w' : World} {S : Nat → Prop} {b lim : Nat} {A : Option Addr} {c : Nat} {xs : List Nd} (h : Ar w b lim A c xs) (ho : Only S w w') (hb : ¬ S b) (hS : ∀ g, (Value.slice A xs.length c).ownBlock = some g → ¬ S g) : Ar w' b lim A c xs :=
  ⟨(World.cell?_of_block (a := ⟨b, 0, none⟩) (ho.block b h.lt hb)).trans h.lim0, (World.cell?_of_block (a := ⟨b, 1, none⟩) (ho.block b h.lt hb)).trans h.row,
   (frozen_of_block (a := ⟨b, 1, none⟩) (ho.block b h.lt hb)).trans h.free, ownsRow_only h.own ho hS, Nat.lt_of_lt_of_le h.lt ho.size, h.fits, h.low, h.top⟩
theorem Ar.keep {w w' : World} {b lim : Nat} {A : Option Addr} {c : Nat} {xs : List Nd} (h : Ar w b lim A c xs) (hk : Keep w w') : Ar w' b lim A c xs :=
  h.only (Only.of_keep (fun _ => False) hk) (fun h => h) (fun _ _ h => h)
/-- The cells of its j-th node. -/
theorem Ar.at_ {w : World} {b lim : Nat} {A : Option Addr} {c : Nat} {xs : List Nd} (h : Ar w b lim A c xs) (j : Nat) (z : Nd) (hj : xs[j]? = some z) :
    ∃ g, A = some ⟨g, 0, none⟩ ∧ b < g ∧ g < w.heap.size ∧ (∀ q, w.frozen? ⟨g, q, none⟩ = false) ∧ w.cell? ⟨g, j * 7, none⟩ = some (.int .i32 z.l) ∧ w.cell? ⟨g, j * 7 + 1, none⟩ = some (.int .i32 z.r) ∧ w.cell? ⟨g, j * 7 + 2, none⟩ = some (.int .i64 z.c) ∧ w.cell? ⟨g, j * 7 + 3, none⟩ = some (.int .i64 z.s) ∧
      w.cell? ⟨g, j * 7 + 4, none⟩ = some (.int .i64 z.mn) ∧ w.cell? ⟨g, j * 7 + 5, none⟩ = some (.int .i64 z.mx) ∧ w.cell? ⟨g, j * 7 + 6, none⟩ = some (.bool z.k) := by
  have hl := (List.getElem?_eq_some_iff.1 hj).1
  obtain ⟨g, cap, e⟩ : ∃ g cap, Value.slice A xs.length c = .slice (some ⟨g, 0, none⟩) xs.length cap := by
    rcases h.own.2 with ⟨e, h0⟩ | ⟨g, cap, cur, e, _⟩
    · exfalso; simp at e; rw [e.2.1] at hl; simp at hl
    · exact ⟨g, cap, e⟩
  cases e
  have hlt := h.own.lt g rfl
  have hg := nds_get xs j z hj
  have hc : ∀ i, i < 7 → w.cell? ⟨g, j * 7 + i, none⟩ = (ndc z)[i]? := fun i hi => (h.own.cellAt (j * 7 + i) (by omega)).trans (hg i hi)
  exact ⟨g, rfl, by omega, hlt.2, fun q => h.own.frozenAt q, hc 0 (by omega), hc 1 (by omega), hc 2 (by omega), hc 3 (by omega), hc 4 (by omega), hc 5 (by omega), hc 6 (by omega)⟩
theorem Ar.stored {w : World} {b lim g c : Nat} {xs : List Nd} (h : Ar w b lim (some ⟨g, 0, none⟩) c xs) (j : Nat) (y : Nd) (hj : j < xs.length) :
    Ar (((((((w.setCell ⟨g, j * 7, none⟩ (.int .i32 y.l)).setCell ⟨g, j * 7 + 1, none⟩ (.int .i32 y.r)).setCell ⟨g, j * 7 + 2, none⟩ (.int .i64 y.c)).setCell ⟨g, j * 7 + 3, none⟩ (.int .i64 y.s)).setCell ⟨g, j * 7 + 4, none⟩ (.int .i64 y.mn)).setCell ⟨g, j * 7 + 5, none⟩ (.int .i64 y.mx)).setCell ⟨g, j * 7 + 6, none⟩ (.bool y.k)) b lim (some ⟨g, 0, none⟩) c (xs.set j y) := by
  have hlt := h.own.lt g rfl
  have hO := ((((((((Only.refl (fun k => k = g) w).setCell ⟨g, j * 7, none⟩ (.int .i32 y.l) rfl).setCell ⟨g, j * 7 + 1, none⟩ (.int .i32 y.r) rfl).setCell ⟨g, j * 7 + 2, none⟩ (.int .i64 y.c) rfl).setCell ⟨g, j * 7 + 3, none⟩ (.int .i64 y.s) rfl).setCell ⟨g, j * 7 + 4, none⟩ (.int .i64 y.mn) rfl).setCell ⟨g, j * 7 + 5, none⟩ (.int .i64 y.mx) rfl).setCell ⟨g, j * 7 + 6, none⟩ (.bool y.k) rfl)
  have hb := hO.block b h.lt (by omega)
  have hl : (xs.set j y).length = xs.length := by simp
  refine ⟨(World.cell?_of_block (a := ⟨b, 0, none⟩) hb).trans h.lim0, (World.cell?_of_block (a := ⟨b, 1, none⟩) hb).trans (by rw [hl]; exact h.row), (frozen_of_block (a := ⟨b, 1, none⟩) hb).trans h.free, ?_, Nat.lt_of_lt_of_le h.lt hO.size, by rw [hl]; exact h.fits, h.low, h.top⟩
  rw [hl, ← nds_set xs j y hj]
  exact (((((((h.own.stored _ _).1.stored _ _).1.stored _ _).1.stored _ _).1.stored _ _).1.stored _ _).1.stored _ _).1
theorem row7_only {S : Nat → Prop} {v w : World} {g : Nat} (h : Only S v w) (hg : S g) (o : Nat) (y : Nd) : Only S v (((((((w.setCell ⟨g, o, none⟩ (.int .i32 y.l)).setCell ⟨g, o + 1, none⟩ (.int .i32 y.r)).setCell ⟨g, o + 2, none⟩ (.int .i64 y.c)).setCell ⟨g, o + 3, none⟩ (.int .i64 y.s)).setCell ⟨g, o + 4, none⟩ (.int .i64 y.mn)).setCell ⟨g, o + 5, none⟩ (.int .i64 y.mx)).setCell ⟨g, o + 6, none⟩ (.bool y.k)) :=
  ((((((h.setCell _ _ hg).setCell _ _ hg).setCell _ _ hg).setCell _ _ hg).setCell _ _ hg).setCell _ _ hg).setCell _ _ hg
theorem Ar.of_block {w : World} {b lim : Nat} {t : TypeId} (hb : w.heap[b]? = some (.cells #[.int .i64 lim, .slice none 0 0] t (0, 0))) (h1 : 1 ≤ lim) (h2 : lim ≤ 4194304) : Ar w b lim none 0 [] :=
  ⟨by simp [World.cell?, hb], by simp [World.cell?, hb], by simp [World.frozen?, hb], World.ownsRow_nil _ _ _ _, (Array.getElem?_eq_some_iff.1 hb).1, by simp, h1, h2⟩
theorem NdAt.news {w : World} {b : Nat} {z : Nd} (h : NdAt w b z) : ∀ j u, (ndc z)[j]? = some u → w.cell? ((⟨b, 0, none⟩ : Addr).add j) = some u := by
  intro j u hu
  unfold NdAt at h
  rw [addr_add, Nat.zero_add]
  simpa [World.cell?, h, ndc] using hu
theorem nds_single (z : Nd) : nds [z] = ndc z := by simp [nds]
section
variable {P : Program} {w : World}
theorem wpList_append_sz {ops : Array Oper} {rest : List Oper} {o : Oper} {a : Act} {Q : Exit → Act → World → Prop} (hgd : o.guard = none) (s x : Operand) (t : TypeId)
    (ho : o.op = .call { callee := .builtin .append, args := #[s, x], argTypes := #[t, t] })
    (base : Nat) (e : TypeId) (i : TypeInfo) (z : Value) (size bytes : Nat) (ht : P.underlying t = some (.slice e)) (hi : P.info? e = some i) (hz : i.zero = some z)
    (hsize : i.size = size) (hby : i.bytes = bytes) (hzs : z.cells.size = size) (hsz : 0 < size)
    (v : Value) (n : Nat) (xs : List Value) (hs : a.eval s = v) (hown : w.ownsRow base e size v n xs)
    (ad : Addr) (m c : Nat) (news : List Value) (hx : a.eval x = .slice (some ad) m c) (hl : news.length = m * size) (hnews : ∀ j u, news[j]? = some u → w.cell? (ad.add j) = some u) (h1 : ∀ u ∈ news, u.oneCell' = true)
    (h63 : n + m ≤ maxLen) (hbytes : (n + m) * bytes ≤ 140737488355328) (hbase : base ≤ w.heap.size)
    (h : ∀ A' c' w', w'.ownsRow base e size (.slice A' (n + m) c') (n + m) (xs ++ news) → w.grownBy w' v.ownBlock → ((Value.slice A' (n + m) c').ownBlock = v.ownBlock ∨ (Value.slice A' (n + m) c').ownBlock = some w.heap.size) → wpList P ops Q rest (a.put o.dst (.slice A' (n + m) c')) w') :
    wpList P ops Q (o :: rest) a w := by
  refine wpList_plain hgd fun K hK => ?_
  obtain ⟨v', w', hr, h2, h3, _, h5⟩ := run_append_own_at (P := P) w base t o.type e i z size bytes ht hi hz hsize hby hzs hsz v n xs hown ad m c news hl hnews h1 h63 hbytes hbase
  obtain ⟨A', c', rfl⟩ : ∃ A' c', v' = .slice A' (n + m) c' := by
    rcases h2.2 with ⟨rfl, h0⟩ | ⟨g, cap, cur, rfl, _⟩
    · exact ⟨none, 0, by rw [h0]⟩
    · exact ⟨_, _, rfl⟩
  unfold Oper.wp execOp
  simp only [ho, resolve, invoke, builtin, Sem.run_bind, Sem.run_pure, Result.andThen_ok, List.map_toArray, List.map_cons, List.map_nil, hs, hx, hr]
  exact hK _ _ (h A' c' w' h2 h3 h5)
end
theorem Ar.grown {w w6 : World} {b lim : Nat} {A : Option Addr} {c : Nat} {xs : List Nd} {o : Obj} (h : Ar w b lim A c xs) (hg : (w.alloc o).grownBy w6 (Value.slice A xs.length c).ownBlock) :
    w6.cell? ⟨b, 1, none⟩ = some (.slice A xs.length c) ∧ w6.frozen? ⟨b, 1, none⟩ = false ∧ w6.cell? ⟨b, 0, none⟩ = some (.int .i64 lim) ∧ b < w6.heap.size := by
  have hlt := h.lt
  have hb : w6.heap[b]? = w.heap[b]? := (hg.block b (by simp; omega) (fun e => h.block_ne b (Nat.le_refl _) e.symm)).trans (((Keep.refl w).alloc o).block b hlt)
  refine ⟨(World.cell?_of_block (a := ⟨b, 1, none⟩) hb).trans h.row, (frozen_of_block (a := ⟨b, 1, none⟩) hb).trans h.free, (World.cell?_of_block (a := ⟨b, 0, none⟩) hb).trans h.lim0, ?_⟩
  have := hg.size
  simp at this
  omega
theorem Ar.appended {w w6 : World} {b lim : Nat} {A A' : Option Addr} {c c' : Nat} {xs : List Nd} {o : Obj} {z : Nd} (h : Ar w b lim A c xs) (hg : (w.alloc o).grownBy w6 (Value.slice A xs.length c).ownBlock)
    (hown : w6.ownsRow (b + 1) 96 7 (.slice A' (xs.length + 1) c') (xs.length + 1) (nds xs ++ ndc z)) (hlt : xs.length < lim) : Ar (w6.setCell ⟨b, 1, none⟩ (.slice A' (xs.length + 1) c')) b lim A' c' (xs ++ [z]) := by
  obtain ⟨h1, h2, h3, h4⟩ := h.grown hg
  have hl : (xs ++ [z]).length = xs.length + 1 := by simp
  refine ⟨?_, ?_, ?_, ?_, ?_, by rw [hl]; exact hlt, h.low, h.top⟩
  · rw [World.cell?_setCell_other _ _ _ _ (by simp), h3]
  · rw [World.cell?_setCell_same _ _ _ h1, hl]
  · rw [World.frozen?_setCell, h2]
  · rw [hl, nds_append, nds_single]
    exact ownsRow_setCell_below hown (by simp) _
  · exact Nat.lt_of_lt_of_le h4 (KeepsWalks.setCell _ _ _).size
theorem infoNd : (Try.prog.info? 96).map (fun i => (i.zero, i.size, i.bytes)) = some (some (.agg #[.int .i32 0, .int .i32 0, .int .i64 0, .int .i64 0, .int .i64 0, .int .i64 0, .bool false]), 7, 48) := by kernel_rfl
end Go.Proofs.Ytopengbflnoneaa
