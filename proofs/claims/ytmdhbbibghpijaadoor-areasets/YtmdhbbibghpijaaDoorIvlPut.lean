/- The document's own put of layer 6: a rising row with a number, once. -/
import Derived.Test.YtmdhbbibghpijaaDoorIvlRef
namespace Go.Proofs.YtmdhbbibghpijaaDoor
open Go.RowKit

theorem infoI64 : (Tryd.prog.info? 2).map (fun i => (i.zero, i.size, i.bytes)) = some (some (.int .i64 0), 1, 8) := by kernel_rfl
/-- Rising. -/
def Up (ns : List Int) : Prop := ns.Pairwise (fun a b => a < b)
/-- What put makes: the numbers ahead of k, k, those behind it. -/
structure Put (ns : List Int) (k : Int) (ms : List Int) : Prop where
  up : Up ms
  mem : ∀ z, z ∈ ms ↔ z ∈ ns ∨ z = k
  len : ms.length ≤ ns.length + 1
theorem put_same {ns : List Int} {k : Int} (h : Up ns) (hk : k ∈ ns) : Put ns k ns := ⟨h, fun z => ⟨.inl, fun g => g.elim id (fun e => e ▸ hk)⟩, by omega⟩
theorem put_new {xs ys : List Int} {k : Int} (h : Up (xs ++ ys)) (h1 : ∀ z ∈ xs, z < k) (h2 : ∀ z ∈ ys, k < z) : Put (xs ++ ys) k (xs ++ [k] ++ ys) := by
  unfold Up at h
  rw [List.pairwise_append] at h
  refine ⟨?_, fun z => ?_, by simp; omega⟩
  rotate_left
  · simp only [List.mem_append, List.mem_singleton]
    constructor
    · rintro ((g | g) | g)
      · exact .inl (.inl g)
      · exact .inr g
      · exact .inl (.inr g)
    · rintro ((g | g) | g)
      · exact .inl (.inl g)
      · exact .inr g
      · exact .inl (.inr g)
  unfold Up
  rw [List.append_assoc, List.pairwise_append, List.singleton_append, List.pairwise_cons]
  refine ⟨h.1, ⟨h2, h.2.1⟩, fun a ha b hb => ?_⟩
  rcases List.mem_cons.1 hb with rfl | hb
  · exact h1 a ha
  · exact h.2.2 a ha b hb
theorem behind {ns : List Int} {j : Nat} {k x : Int} (h : Up ns) (hx : ns[j]? = some x) (hk : k < x) : ∀ z ∈ ns.drop j, k < z := by
  have hj := (List.getElem?_eq_some_iff.1 hx).1
  have e : ns.drop j = x :: ns.drop (j + 1) := by
    rw [List.drop_eq_getElem_cons hj]
    congr 1
    exact (List.getElem?_eq_some_iff.1 hx).2
  have hp : (ns.drop j).Pairwise (fun a b => a < b) := List.Pairwise.sublist (List.drop_sublist j ns) h
  rw [e] at hp ⊢
  intro z hz
  rcases List.mem_cons.1 hz with rfl | hz
  · exact hk
  · have := (List.pairwise_cons.1 hp).1 z hz
    omega

/-- A row of numbers that is only read. -/
structure Nums (w : World) (A : Option Addr) (n c : Nat) (ns : List Int) : Prop where
  lies : Lies w w.heap.size A n (vals .i64 ns)
  cap : n ≤ c
  nil : A = none → c = 0
theorem Nums.keep {w w' : World} {A : Option Addr} {n c : Nat} {ns : List Int} (h : Nums w A n c ns) (hk : Keep w w') : Nums w' A n c ns := ⟨(h.lies.below hk).more hk.size, h.cap, h.nil⟩
theorem Nums.len {w : World} {A : Option Addr} {n c : Nat} {ns : List Int} (h : Nums w A n c ns) : ns.length = n := by have := h.lies.1; rwa [vals_length] at this
theorem nums_row {w : World} {base n c : Nat} {A : Option Addr} {ns : List Int} (h : w.ownsRow base 2 1 (.slice A n c) n (vals .i64 ns)) : Nums w A n c ns := by
  obtain ⟨A', c', e, hl⟩ := Lies.of_row h
  cases e
  rcases h.2 with ⟨e, _⟩ | ⟨g, cap, cur, e, _, _, hle, _⟩
  · cases e; exact ⟨hl, Nat.le_refl _, fun _ => rfl⟩
  · cases e; exact ⟨hl, hle, (fun h => by cases h)⟩
theorem vals_gi {ns : List Int} {j : Nat} {v : Int} (h : ns[j]? = some v) : (vals .i64 ns).getD j undef = .int .i64 v := by
  simp [vals, List.getD_eq_getElem?_getD, h]

end Go.Proofs.YtmdhbbibghpijaaDoor
