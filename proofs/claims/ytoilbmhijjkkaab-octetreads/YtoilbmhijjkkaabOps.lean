/- A row of steps that came in: what a walk is told of it; the walk of 'few'. -/
import Derived.Test.YtoilbmhijjkkaabProg
import Derived.Test.YtoilbmhijjkkaabArr2
import Derived.Deep.Slices
import Derived.ChangeSame
import Derived.OpenShut
namespace Go.Proofs.Ytoilbmhijjkkaab
open Go.RowKit Go.Deep Go.ChangeShapes Go.WideShapes

/-- A step: its three numbers, and its bytes. -/
structure OpV where
  kind : Int
  size : Int
  n : Int
  a : Option Addr
  len : Nat
  cap : Nat
  z : List Int
/-- The step's four cells lie from off on, in block b. -/
def OpAt (w : World) (b off : Nat) (o : OpV) : Prop :=
  w.cell? ⟨b, off, none⟩ = some (.int .i64 o.kind) ∧ w.cell? ⟨b, off + 1, none⟩ = some (.int .i64 o.size) ∧ w.cell? ⟨b, off + 2, none⟩ = some (.int .i64 o.n) ∧ w.cell? ⟨b, off + 3, none⟩ = some (.slice o.a o.len o.cap)
/-- Its numbers fit, and its bytes lie where it says. -/
def OpOk (w : World) (o : OpV) : Prop :=
  (Lit.int .i64 o.kind).wf = true ∧ (Lit.int .i64 o.size).wf = true ∧ (Lit.int .i64 o.n).wf = true ∧ Arr .u8 w o.a o.len o.z ∧ (o.a = none → o.cap = 0)
/-- The slice at a of length len holds the steps os. -/
def Ops (w : World) (a : Option Addr) (len : Nat) (os : List OpV) : Prop :=
  len ≤ maxLen ∧ os.length = len ∧ ∀ (i : Nat) (o : OpV), os[i]? = some o → OpOk w o ∧ ∃ b off, a = some ⟨b, off, none⟩ ∧ b < w.heap.size ∧ OpAt w b (off + i * 4) o

theorem OpAt.keep {w w' : World} {b off : Nat} {o : OpV} (h : OpAt w b off o) (hk : Keep w w') (hb : b < w.heap.size) : OpAt w' b off o :=
  ⟨(hk.cell (p := ⟨b, off, none⟩) hb).trans h.1, (hk.cell (p := ⟨b, off + 1, none⟩) hb).trans h.2.1, (hk.cell (p := ⟨b, off + 2, none⟩) hb).trans h.2.2.1, (hk.cell (p := ⟨b, off + 3, none⟩) hb).trans h.2.2.2⟩

theorem Ops.keep {w w' : World} {a : Option Addr} {len : Nat} {os : List OpV} (h : Ops w a len os) (hk : Keep w w') : Ops w' a len os :=
  ⟨h.1, h.2.1, fun i o hi => by
    obtain ⟨⟨p1, p2, p3, ⟨q1, q2, q3⟩, p5⟩, b, off, e, hb, hat⟩ := h.2.2 i o hi
    exact ⟨⟨p1, p2, p3, ⟨q1, (q2.below hk).more hk.size, q3⟩, p5⟩, b, off, e, Nat.lt_of_lt_of_le hb hk.size, hat.keep hk hb⟩⟩

/-- Are steps few, and short? -/
def fewB (os : List OpV) : Bool := os.all (fun o => decide (o.len ≤ 60)) && decide (os.length ≤ 40)
theorem fewB_no {os : List OpV} {j : Nat} {o : OpV} (h : os[j]? = some o) (hl : 60 < o.len) : fewB os = false := by
  unfold fewB
  have : os.all (fun o => decide (o.len ≤ 60)) = false := by
    rw [List.all_eq_false]
    exact ⟨o, List.mem_of_getElem? h, by simp; omega⟩
  rw [this]; rfl
theorem fewB_all {os : List OpV} (h : ∀ (i : Nat) (o : OpV), os[i]? = some o → o.len ≤ 60) : fewB os = decide (os.length ≤ 40) := by
  unfold fewB
  have : os.all (fun o => decide (o.len ≤ 60)) = true := by
    rw [List.all_eq_true]
    intro o ho
    obtain ⟨i, hi⟩ := List.getElem?_of_mem ho
    simpa using h i o hi
  rw [this]; rfl

set_option maxRecDepth 100000 in
set_option maxHeartbeats 1000000 in
theorem few_any (a : Option Addr) (len cap : Nat) (os : List OpV) (w : World) (ho : Ops w a len os) :
    Calls Try.prog 10 #[.slice a len cap] w fun e w' => e = .returned (.bool (fewB os)) ∧ Keep w w' := by
  obtain ⟨hm, hl, hat⟩ := ho
  unfold maxLen at hm
  subst hl
  have HAT := Lib.hid hat
  clear hat
  go_enter Try.func10, Try.ntmps10
  go_wp2_with fail
  go_loopw [7] (fun i wr => ∃ (j : Nat), j ≤ os.length ∧ i = .int .i64 j ∧ Hid (∀ (k : Nat) (o : OpV), k < j → os[k]? = some o → o.len ≤ 60) ∧ Keep w wr) (fun i _ => os.length - (intOf i).toNat)
  case atStart => exact ⟨0, Nat.zero_le _, rfl, Lib.hid (fun k o hk => by omega), Keep.refl _⟩
  case round =>
    obtain ⟨j, hj, rfl, hle, hk⟩ := hrel
    by_cases hlt : j < os.length
    · have hoj : os[j]? = some os[j] := List.getElem?_eq_getElem hlt
      generalize os[j] = o at hoj
      obtain ⟨hok, b, off, rfl, hb, hc⟩ := HAT.out j o hoj
      have HO := Lib.hid hoj
      obtain ⟨c0, c1, c2, c3⟩ := hc.keep hk hb
      clear hc hok hoj
      by_cases h60 : 60 < o.len
      · go_wp2_with fail
        go_ret
        rw [fewB_no HO.out h60]
        exact ⟨rfl, hk.alloc _⟩
      · go_wp2_with fail
        go_roundw
        case rel =>
          refine ⟨j + 1, hlt, by go_num, Lib.hid (fun k o' hk' ho' => ?_), hk.alloc _⟩
          rcases Nat.lt_or_ge k j with h | h
          · exact hle.out k o' h ho'
          · obtain rfl : k = j := by omega
            have := Option.some.inj (HO.out.symm.trans ho')
            subst this
            omega
        case measure => simp [intOf]; omega
    · obtain rfl : j = os.length := by omega
      go_wp2
      go_ret
      rw [fewB_all (fun i o hi => hle.out i o (by have := (List.getElem?_eq_some_iff.1 hi).1; omega) hi)]
      exact ⟨by go_num, hk⟩

section
variable {H : Type} {w : World} {held : Bool}
/-- The bytes of a step, from its cell. -/
theorem open_step_bytes {enc : TypeId × Value → H} {fuel : Nat} {v : Value} {x : DataW H × List MemPlace} (h : DataW.trod enc Try.prog w 0 (fun _ => true) held fuel 25 [v] = some x) :
    ∃ (a : Option Addr) (len cap : Nat) (z : List Int), v = .slice a len cap ∧ Arr .u8 w a len z ∧ (a = none → cap = 0) := by
  rcases open_ints Try.underlying25 Try.underlying5 (by kernel_rfl) h with ⟨hcs, _⟩ | ⟨a, l, c, zs, hcs, _, hl, hm, hz, _, hcell, hwz⟩
  · have e : v = .slice none 0 0 := by simpa using hcs
    exact ⟨none, 0, 0, [], e, arr_none _ _ _, fun _ => rfl⟩
  · have e : v = .slice (some a) l c := by simpa using hcs
    exact ⟨some a, l, c, _, e, arr_some hl hm (by simpa using hz) hcell hwz, fun h => by cases h⟩

theorem opFields : ∃ f0 f1 f2 f3 : Field, Try.prog.underlying 29 = some (.struct #[f0, f1, f2, f3]) ∧ f0.offset = 0 ∧ f1.offset = 1 ∧ f2.offset = 2 ∧ f3.offset = 3 ∧
    Try.prog.underlying f0.type = some (.int .i64) ∧ Try.prog.underlying f1.type = some (.int .i64) ∧ Try.prog.underlying f2.type = some (.int .i64) ∧ f3.type = 25 ∧
    Try.prog.cellsOf f0.type = 1 ∧ Try.prog.cellsOf f1.type = 1 ∧ Try.prog.cellsOf f2.type = 1 ∧ Try.prog.cellsOf f3.type = 1 :=
  ⟨_, _, _, _, Try.underlying29, by kernel_rfl, by kernel_rfl, by kernel_rfl, by kernel_rfl, by kernel_rfl, by kernel_rfl, by kernel_rfl, by kernel_rfl, by kernel_rfl, by kernel_rfl, by kernel_rfl, by kernel_rfl⟩

theorem open_arg22 (enc : TypeId × Value → H) {a : Option Addr} {len cap : Nat} {d : DataW H} {p : List MemPlace} (h : DataW.Trod enc Try.prog w 0 (fun _ => true) held 22 (.slice a len cap) d p) : ∃ os, Ops w a len os := by
  obtain ⟨fuel, hf⟩ := h
  obtain ⟨f0, f1, f2, f3, he, o0, o1, o2, o3, u0, u1, u2, u3, k0, k1, k2, k3⟩ := opFields
  have ce : Try.prog.cellsOf 29 = 4 := by kernel_rfl
  rcases open_slice Try.underlying22 hf with ⟨hcs, _⟩ | ⟨ad, l, c, m, n, D, Pl, hcs, _, hl, hm, hmm, _, hx⟩
  · simp [Value.cells] at hcs
    obtain ⟨rfl, rfl, rfl⟩ := hcs
    exact ⟨[], Nat.zero_le _, rfl, fun i o h => by cases h⟩
  · simp [Value.cells] at hcs
    obtain ⟨rfl, rfl, rfl⟩ := hcs
    have hlm : len ≤ m := by rw [hmm]; simpa using hl
    have hsp : 0 < m → ad.spot = none := by
      intro h0
      obtain ⟨cs', h1, _⟩ := hx 0 h0
      rw [ce] at h1
      obtain ⟨_, hlen, hcell⟩ := World.cells?_some h1
      match cs', hlen with
      | v0 :: rest, _ =>
        have e0 := hcell 0 (by omega)
        simp only [add_add] at e0
        have := World.cell?_spot e0
        simpa [Addr.add] using this
    have each : ∀ i, i < len → ∃ o : OpV, OpOk w o ∧ ∃ b off, some ad = some ⟨b, off, none⟩ ∧ b < w.heap.size ∧ OpAt w b (off + i * 4) o := by
      intro i hi
      obtain ⟨cs', h1, h2⟩ := hx i (by omega)
      rw [ce] at h1
      obtain ⟨_, hlen, hcell⟩ := World.cells?_some h1
      obtain ⟨xs, k, hk, hxy, _, hxl, hfl⟩ := DataW.trod_struct he h2
      match xs, hxl, cs', hlen with
      | [y0, y1, y2, y3], _, [v0, v1, v2, v3], _ =>
        have g0 := hfl 0 f0 rfl
        have g1 := hfl 1 f1 rfl
        have g2 := hfl 2 f2 rfl
        have g3 := hfl 3 f3 rfl
        simp [o0, o1, o2, o3, k0, k1, k2, k3] at g0 g1 g2 g3
        obtain ⟨n0, q0, _, wf0⟩ := DataW.trod_int u0 g0
        obtain ⟨n1, q1, _, wf1⟩ := DataW.trod_int u1 g1
        obtain ⟨n2, q2, _, wf2⟩ := DataW.trod_int u2 g2
        rw [u3] at g3
        obtain ⟨ba, bl, bc, bz, q3, harr, hnil⟩ := open_step_bytes g3
        simp only [List.cons.injEq, and_true] at q0 q1 q2
        subst q0 q1 q2 q3
        have e0 := hcell 0 (by omega)
        have e1 := hcell 1 (by omega)
        have e2 := hcell 2 (by omega)
        have e3 := hcell 3 (by omega)
        simp only [add_add] at e0 e1 e2 e3
        obtain ⟨b, off, spot⟩ := ad
        have hspot : spot = none := hsp (by omega)
        subst hspot
        have ea : ∀ q, (⟨b, off, none⟩ : Addr).add q = ⟨b, off + q, none⟩ := fun q => by unfold Addr.add; split <;> simp_all
        simp only [ea] at e0 e1 e2 e3
        refine ⟨⟨n0, n1, n2, ba, bl, bc, bz⟩, ⟨wf0, wf1, wf2, harr, hnil⟩, b, off, rfl, World.block_lt_of_cell? w _ e0, ?_, ?_, ?_, ?_⟩
        · simpa using e0
        · simpa [Nat.add_assoc] using e1
        · simpa [Nat.add_assoc] using e2
        · simpa [Nat.add_assoc] using e3
    haveI : Inhabited OpV := ⟨⟨0, 0, 0, none, 0, 0, []⟩⟩
    obtain ⟨q, hq⟩ := choose_lt each
    refine ⟨(List.range len).map q, by omega, by simp, fun i o hi => ?_⟩
    obtain ⟨hlt, rfl⟩ := List.getElem?_eq_some_iff.1 hi
    rw [List.getElem_map, List.getElem_range]
    exact hq i (by simpa using hlt)
end
end Go.Proofs.Ytoilbmhijjkkaab
