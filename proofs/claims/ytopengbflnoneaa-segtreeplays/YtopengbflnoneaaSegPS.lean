/- A tree, and the document's, side by side; steps. -/
import Derived.Test.YtopengbflnoneaaSegRef4
import Derived.Test.YtopengbflnoneaaSegArg
import Derived.Lib.SmallJoins
namespace Go.Proofs.Ytopengbflnoneaa
open Go.RowKit Go.Joins Go.Deep Go.ChangeShapes Go.WideShapes

/-- The blocks of the document's tree. -/
def Prx (bx : Nat) (A B : Option Addr) (k : Nat) : Prop := k = bx ∨ (∃ off, A = some ⟨k, off, none⟩) ∨ (∃ off, B = some ⟨k, off, none⟩)
structure PSt (W0 : World) (bt bx lim : Nat) (A : Option Addr) (n c : Nat) (kr : List (Int × Int)) (B : Option Addr) (m d : Nat) (ever : List Int) (nn : Nat) (t : Sh) (kt : List (Int × Int)) (Z : Nat → Prop) (X : World) : Prop where
  box : RB X bx A n c B m d lim
  row : PL X A n kr
  evr : Lies X X.heap.size B m (vals .u32 ever)
  nil : B = none → d = 0
  tre : Tre W0 bt lim nn t kt (fun k => Prx bx A B k ∨ Z k) X
  apA : ∀ k off, A = some ⟨k, off, none⟩ → k ≠ bx
  apB : ∀ k off, B = some ⟨k, off, none⟩ → k ≠ bx
  le : W0.heap.size ≤ bx
  rng : ∀ z ∈ ever, 0 ≤ z ∧ z < 4294967296
section
variable {W0 X Y : World} {bt bx lim n c m d nn : Nat} {A B : Option Addr} {kr kt : List (Int × Int)} {ever : List Int} {t : Sh} {Z : Nat → Prop}
theorem PSt.keepW (h : PSt W0 bt bx lim A n c kr B m d ever nn t kt Z X) : Keep W0 X := h.tre.keepW
theorem PSt.mono {Z' : Nat → Prop} (h : PSt W0 bt bx lim A n c kr B m d ever nn t kt Z X) (hZ : ∀ k, Z' k → Z k) : PSt W0 bt bx lim A n c kr B m d ever nn t kt Z' X :=
  { h with tre := h.tre.mono (fun k hk => hk.imp id (hZ k)) }
theorem PSt.keep (h : PSt W0 bt bx lim A n c kr B m d ever nn t kt Z X) (hk : Keep X Y) : PSt W0 bt bx lim A n c kr B m d ever nn t kt (fun k => Z k ∨ (X.heap.size ≤ k ∧ k < Y.heap.size)) Y :=
  { box := h.box.keep hk, row := h.row.keep hk, evr := (h.evr.below hk).more hk.size, nil := h.nil, apA := h.apA, apB := h.apB, le := h.le, rng := h.rng,
    tre := (h.tre.keep hk).mono (fun k hk' => by
      rcases hk' with h1 | h1 | h1
      · exact .inl (.inl h1)
      · exact .inl (.inr h1)
      · exact .inr h1) }
theorem PSt.kept (h : PSt W0 bt bx lim A n c kr B m d ever nn t kt Z X) (hk : Keep X Y) : PSt W0 bt bx lim A n c kr B m d ever nn t kt Z Y := (h.keep hk).mono (fun _ h => .inl h)
theorem PSt.keepq {q : Nat} (h : PSt W0 bt bx lim A n c kr B m d ever nn t kt (fun k => q ≤ k ∧ k < X.heap.size) X) (hk : Keep X Y) : PSt W0 bt bx lim A n c kr B m d ever nn t kt (fun k => q ≤ k ∧ k < Y.heap.size) Y :=
  (h.keep hk).mono (fun k hk' => by
    by_cases hx : k < X.heap.size
    · exact .inl ⟨hk'.1, hx⟩
    · exact .inr ⟨by omega, hk'.2⟩)
theorem row_new {w' : World} {base l c : Nat} {A : Option Addr} {e : TypeId} {size : Nat} {xs : List Value} (h : w'.ownsRow base e size (.slice A l c) l xs) : ∀ k off, A = some ⟨k, off, none⟩ → base ≤ k ∧ k < w'.heap.size := fun k off e => by
  obtain ⟨⟨g, e2⟩, -⟩ := own_some h (by rw [e]; simp)
  rw [e2] at e
  cases e
  subst e2
  exact h.lt k rfl
/-- The tree has turned, and the document's has not. -/
theorem PSt.turned {nn' : Nat} {t' : Sh} {kt' : List (Int × Int)} (h : PSt W0 bt bx lim A n c kr B m d ever nn t kt Z X) (hT : Tre W0 bt lim nn' t' kt' (fun k => Prx bx A B k ∨ Z k) Y) (ho : Only (fun k => ¬ (Prx bx A B k ∨ Z k)) X Y) :
    PSt W0 bt bx lim A n c kr B m d ever nn' t' kt' Z Y ∧ Only (fun k => ¬ Z k) X Y :=
  ⟨{ box := h.box.only ho (fun hn => hn (.inl (.inl rfl))), row := h.row.only ho (fun _ off e hn => hn (.inl (.inr (.inl ⟨off, e⟩)))),
     evr := (h.evr.only ho (Nat.le_refl _) (fun _ off e hn => hn (.inl (.inr (.inr ⟨off, e⟩))))).more ho.size, nil := h.nil, tre := hT, apA := h.apA, apB := h.apB, le := h.le, rng := h.rng },
   ho.mono (fun _ _ hn hz => hn (.inr hz))⟩
theorem ps_put (h : PSt W0 bt bx lim A n c kr B m d ever nn t kt Z X) (hl : kt.length ≤ 999999) {key v : Int} (k0 : 0 ≤ key) (k1 : key ≤ 4294967295) (hv : inI v) (hlim : nn + lack 32 0 key t ≤ lim) :
    Calls Try.prog 13 #[.pointer (some ⟨bt, 0, none⟩), .int .u32 key, .int .i64 v] X fun e w' => e = .returned (.int .i64 0) ∧ PSt W0 bt bx lim A n c kr B m d ever (nn + lack 32 0 key t) (grow 32 0 key nn t) (insK key v kt) Z w' ∧ Only (fun k => ¬ Z k) X w' :=
  (tre_put_yes h.tre hl k0 k1 hv hlim).mono fun _ _ ⟨he, h1, h2⟩ => ⟨he, h.turned h1 h2⟩
theorem ps_putno (h : PSt W0 bt bx lim A n c kr B m d ever nn t kt Z X) {key v : Int} (k0 : 0 ≤ key) (k1 : key ≤ 4294967295) (hlim : lim < nn + lack 32 0 key t) :
    Calls Try.prog 13 #[.pointer (some ⟨bt, 0, none⟩), .int .u32 key, .int .i64 v] X fun e w' => e = .returned (.int .i64 6) ∧ Keep X w' := tre_put_no h.tre k0 k1 hlim
theorem ps_kill (h : PSt W0 bt bx lim A n c kr B m d ever nn t kt Z X) (hl : kt.length ≤ 1000000) (p q : Int) :
    Calls Try.prog 17 #[.pointer (some ⟨bt, 0, none⟩), .agg #[.int .u32 p, .int .u32 q]] X fun e w' => e = .returned (.int .i64 (ofL (vs (kt.filter (inS p q)))).c) ∧ PSt W0 bt bx lim A n c kr B m d ever nn t (kt.filter (fun x => !inS p q x)) Z w' ∧ Only (fun k => ¬ Z k) X w' :=
  (tre_kill h.tre hl p q).mono fun _ _ ⟨he, h1, h2⟩ => ⟨he, h.turned h1 h2⟩
theorem ps_drop (h : PSt W0 bt bx lim A n c kr B m d ever nn t kt Z X) (hl : kt.length ≤ 1000000) (key : Int) (v : Bool) (hv : decide (0 < (ofL (vs (kt.filter (inS key key)))).c) = v) :
    Calls Try.prog 15 #[.pointer (some ⟨bt, 0, none⟩), .int .u32 key] X fun e w' => e = .returned (.bool v) ∧ PSt W0 bt bx lim A n c kr B m d ever nn t (kt.filter (fun x => !inS key key x)) Z w' ∧ Only (fun k => ¬ Z k) X w' :=
  (tre_drop h.tre hl key v hv).mono fun _ _ ⟨he, h1, h2⟩ => ⟨he, h.turned h1 h2⟩
/-- The document's new tree is stored where the old one was. -/
theorem PSt.stored {A' : Option Addr} {n' c' : Nat} {kr' : List (Int × Int)} {B' : Option Addr} {m' d' : Nat} {ever' : List Int} (h : PSt W0 bt bx lim A n c kr B m d ever nn t kt Z X) (hr : PL X A' n' kr') (he : Lies X X.heap.size B' m' (vals .u32 ever')) (hn : B' = none → d' = 0)
    (hA : ∀ k off, A' = some ⟨k, off, none⟩ → Z k ∨ ∃ off', A = some ⟨k, off', none⟩) (hB : ∀ k off, B' = some ⟨k, off, none⟩ → Z k ∨ ∃ off', B = some ⟨k, off', none⟩) (hZ : ¬ Z bx) (hrng : ∀ z ∈ ever', 0 ≤ z ∧ z < 4294967296) :
    PSt W0 bt bx lim A' n' c' kr' B' m' d' ever' nn t kt Z (((X.setCell ⟨bx, 0, none⟩ (.slice A' n' c')).setCell ⟨bx, 1, none⟩ (.slice B' m' d')).setCell ⟨bx, 2, none⟩ (.int .i64 lim)) ∧
      Only (fun k => k = bx) X (((X.setCell ⟨bx, 0, none⟩ (.slice A' n' c')).setCell ⟨bx, 1, none⟩ (.slice B' m' d')).setCell ⟨bx, 2, none⟩ (.int .i64 lim)) := by
  have hO : Only (fun k => k = bx) X (((X.setCell ⟨bx, 0, none⟩ (.slice A' n' c')).setCell ⟨bx, 1, none⟩ (.slice B' m' d')).setCell ⟨bx, 2, none⟩ (.int .i64 lim)) :=
    (((Only.refl (fun k => k = bx) X).setCell ⟨bx, 0, none⟩ (.slice A' n' c') rfl).setCell ⟨bx, 1, none⟩ (.slice B' m' d') rfl).setCell ⟨bx, 2, none⟩ (.int .i64 lim) rfl
  have apA : ∀ k off, A' = some ⟨k, off, none⟩ → k ≠ bx := fun k off e hb => by
    rcases hA k off e with h1 | ⟨off', h1⟩
    · exact hZ (hb ▸ h1)
    · exact h.apA k off' h1 hb
  have apB : ∀ k off, B' = some ⟨k, off, none⟩ → k ≠ bx := fun k off e hb => by
    rcases hB k off e with h1 | ⟨off', h1⟩
    · exact hZ (hb ▸ h1)
    · exact h.apB k off' h1 hb
  refine ⟨{ box := h.box.stored A' n' c' B' m' d' lim, row := hr.only hO (fun b off e => apA b off e), evr := (he.only hO (Nat.le_refl _) (fun b off e => apB b off e)).more hO.size, nil := hn, apA := apA, apB := apB, le := h.le, rng := hrng, tre := ?_ }, hO⟩
  refine (h.tre.only hO (fun k e => ⟨.inl (.inl e), by rw [e]; exact h.le⟩)).mono (fun k hk => ?_)
  rcases hk with (h1 | ⟨off, e⟩ | ⟨off, e⟩) | h1
  · exact .inl (.inl h1)
  · rcases hA k off e with h2 | h2
    · exact .inr h2
    · exact .inl (.inr (.inl h2))
  · rcases hB k off e with h2 | h2
    · exact .inr h2
    · exact .inl (.inr (.inr h2))
  · exact .inr h1
end
/-- A step. -/
structure OpG where
  kind : Int
  key : Int
  hi : Int
  val : Int
def OpG.ok (o : OpG) : Prop := (0 ≤ o.key ∧ o.key < 4294967296) ∧ (0 ≤ o.hi ∧ o.hi < 4294967296) ∧ inI o.val
def OpB (w : World) (b : Nat) (o : OpG) : Prop := w.heap[b]? = some (.cells #[.int .i64 o.kind, .int .u32 o.key, .int .u32 o.hi, .int .i64 o.val] 34 (0, 0))
theorem OpB.new (w : World) (o : OpG) : OpB (w.alloc (.cells #[.int .i64 o.kind, .int .u32 o.key, .int .u32 o.hi, .int .i64 o.val] 34)) w.heap.size o := World.alloc_heap_new _ _
theorem OpB.lt {w : World} {b : Nat} {o : OpG} (h : OpB w b o) : b < w.heap.size := (Array.getElem?_eq_some_iff.1 h).1
theorem OpB.keep {w w' : World} {b : Nat} {o : OpG} (h : OpB w b o) (hk : Keep w w') : OpB w' b o := (hk.block b h.lt).trans h
theorem OpB.only {w w' : World} {S : Nat → Prop} {b : Nat} {o : OpG} (h : OpB w b o) (ho : Only S w w') (hS : ¬ S b) : OpB w' b o := (ho.block b h.lt hS).trans h
theorem OpB.cells {w : World} {b : Nat} {o : OpG} (h : OpB w b o) : w.cell? ⟨b, 0, none⟩ = some (.int .i64 o.kind) ∧ w.cell? ⟨b, 1, none⟩ = some (.int .u32 o.key) ∧ w.cell? ⟨b, 2, none⟩ = some (.int .u32 o.hi) ∧ w.cell? ⟨b, 3, none⟩ = some (.int .i64 o.val) := by
  unfold OpB at h
  simp [World.cell?, h]
/-- A slice of steps. -/
def OpA (w : World) (a : Option Addr) (len : Nat) (zs : List OpG) : Prop :=
  zs.length = len ∧ (∀ j o, zs[j]? = some o → ∃ b off, a = some ⟨b, off, none⟩ ∧ b < w.heap.size ∧ w.cell? ⟨b, off + j * 4, none⟩ = some (.int .i64 o.kind) ∧ w.cell? ⟨b, off + j * 4 + 1, none⟩ = some (.int .u32 o.key) ∧ w.cell? ⟨b, off + j * 4 + 2, none⟩ = some (.int .u32 o.hi) ∧ w.cell? ⟨b, off + j * 4 + 3, none⟩ = some (.int .i64 o.val)) ∧ ∀ o ∈ zs, o.ok
theorem bounds_i64 {x : Int} (h : (Lit.int .i64 x).wf = true) : inI x := by
  have e1 : IntKind.i64.min = -9223372036854775808 := by decide
  have e2 : IntKind.i64.max = 9223372036854775807 := by decide
  simp [Lit.wf, e1, e2] at h
  exact h
theorem opFields : ∃ f0 f1 f2 f3 : Field, Try.prog.underlying 34 = some (.struct #[f0, f1, f2, f3]) ∧ (f0.offset = 0 ∧ f1.offset = 1 ∧ f2.offset = 2 ∧ f3.offset = 3) ∧ f0.type = 3 ∧ f1.type = 32 ∧ f2.type = 32 ∧ f3.type = 2 :=
  ⟨_, _, _, _, Try.underlying34, ⟨by kernel_rfl, by kernel_rfl, by kernel_rfl, by kernel_rfl⟩, by kernel_rfl, by kernel_rfl, by kernel_rfl, by kernel_rfl⟩
set_option maxRecDepth 100000 in
theorem open_arg22 {H : Type} {w : World} {held : Bool} (enc : TypeId × Value → H) {a : Option Addr} {len cap : Nat} {d : DataW H} {p : List MemPlace} (h : DataW.Trod enc Try.prog w 0 (fun _ => true) held 22 (.slice a len cap) d p) : ∃ zs, OpA w a len zs := by
  obtain ⟨fuel, hf⟩ := h
  obtain ⟨f0, f1, f2, f3, he, ⟨o0, o1, o2, o3⟩, t0, t1, t2, t3⟩ := opFields
  have k0 : Try.prog.cellsOf f0.type = 1 := by rw [t0]; kernel_rfl
  have k1 : Try.prog.cellsOf f1.type = 1 := by rw [t1]; kernel_rfl
  have k2 : Try.prog.cellsOf f2.type = 1 := by rw [t2]; kernel_rfl
  have k3 : Try.prog.cellsOf f3.type = 1 := by rw [t3]; kernel_rfl
  have ce : Try.prog.cellsOf 34 = 4 := by kernel_rfl
  rcases open_slice Try.underlying22 hf with ⟨hcs, _⟩ | ⟨ad, l, c, m, n, D, Pl, hcs, _, hl, hm, hmm, _, hx⟩
  · simp [Value.cells] at hcs
    obtain ⟨rfl, rfl, rfl⟩ := hcs
    exact ⟨[], rfl, fun j o h => (by cases h), fun o h => by cases h⟩
  · simp [Value.cells] at hcs
    obtain ⟨rfl, rfl, rfl⟩ := hcs
    have hlm : len ≤ m := by rw [hmm]; simpa using hl
    have hsp : 0 < m → ad.spot = none := by
      intro h0
      obtain ⟨cs', h1, _⟩ := hx 0 h0
      rw [ce] at h1
      obtain ⟨_, hlen, hcell⟩ := World.cells?_some h1
      match cs', hlen with
      | v0 :: rest, _ =>
        have e0 := hcell 0 (by omega)
        simp only [add_add] at e0
        have := World.cell?_spot e0
        simpa [Addr.add] using this
    have each : ∀ i, i < len → ∃ o : OpG, o.ok ∧ ∃ b off, some ad = some ⟨b, off, none⟩ ∧ b < w.heap.size ∧ w.cell? ⟨b, off + i * 4, none⟩ = some (.int .i64 o.kind) ∧ w.cell? ⟨b, off + i * 4 + 1, none⟩ = some (.int .u32 o.key) ∧ w.cell? ⟨b, off + i * 4 + 2, none⟩ = some (.int .u32 o.hi) ∧ w.cell? ⟨b, off + i * 4 + 3, none⟩ = some (.int .i64 o.val) := by
      intro i hi
      obtain ⟨cs', h1, h2⟩ := hx i (by omega)
      rw [ce] at h1
      obtain ⟨_, hlen, hcell⟩ := World.cells?_some h1
      obtain ⟨xs, k, hk, hxy, _, hxl, hfl⟩ := DataW.trod_struct he h2
      match xs, hxl, cs', hlen with
      | [y0, y1, y2, y3], _, [v0, v1, v2, v3], _ =>
        have g0 := hfl 0 f0 rfl
        have g1 := hfl 1 f1 rfl
        have g2 := hfl 2 f2 rfl
        have g3 := hfl 3 f3 rfl
        simp [o0, o1, o2, o3, k0, k1, k2, k3] at g0 g1 g2 g3
        rw [t0] at g0
        rw [t1] at g1
        rw [t2] at g2
        rw [t3] at g3
        obtain ⟨n0, q0, _, wf0⟩ := DataW.trod_int Try.underlying3 g0
        obtain ⟨n1, q1, _, wf1⟩ := DataW.trod_int Try.underlying32 g1
        obtain ⟨n2, q2, _, wf2⟩ := DataW.trod_int Try.underlying32 g2
        obtain ⟨n3, q3, _, wf3⟩ := DataW.trod_int Try.underlying2 g3
        simp only [List.cons.injEq, and_true] at q0 q1 q2 q3
        subst q0 q1 q2 q3
        have e0 := hcell 0 (by omega)
        have e1 := hcell 1 (by omega)
        have e2 := hcell 2 (by omega)
        have e3 := hcell 3 (by omega)
        simp only [add_add] at e0 e1 e2 e3
        obtain ⟨b, off, spot⟩ := ad
        have hspot : spot = none := hsp (by omega)
        subst hspot
        simp only [addr_add] at e0 e1 e2 e3
        have b1 := bounds_u32' wf1
        have b2 := bounds_u32' wf2
        refine ⟨⟨n0, n1, n2, n3⟩, ⟨⟨by dsimp only; omega, by dsimp only; omega⟩, ⟨by dsimp only; omega, by dsimp only; omega⟩, bounds_i64 wf3⟩, b, off, rfl, World.block_lt_of_cell? w _ e0, ?_, ?_, ?_, ?_⟩
        · simpa using e0
        · simpa [Nat.add_assoc] using e1
        · simpa [Nat.add_assoc] using e2
        · simpa [Nat.add_assoc] using e3
    haveI : Inhabited OpG := ⟨⟨0, 0, 0, 0⟩⟩
    obtain ⟨q, hq⟩ := choose_lt each
    refine ⟨(List.range len).map q, by simp, fun i o hi => ?_, fun y hy => ?_⟩
    · obtain ⟨hlt, rfl⟩ := List.getElem?_eq_some_iff.1 hi
      rw [List.getElem_map, List.getElem_range]
      exact (hq i (by simpa using hlt)).2
    · obtain ⟨i, hi, rfl⟩ := List.mem_map.1 hy
      exact (hq i (by simpa using hi)).1
end Go.Proofs.Ytopengbflnoneaa
