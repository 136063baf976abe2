/- slices.SortFunc of spans by where they begin. -/
import Derived.Test.YtmdhbbibghpijaaDoorShelf
import Derived.Test.YtmdhbbibghpijaaDoorIvlDel
import Derived.Shelf.SlSortCmp.NoneTotal
namespace Go.Proofs.YtmdhbbibghpijaaDoor
open Go.RowKit Go.Shelf
open Go.Sort (grow HoldsK putRowK PermIn SortedIn SWO)

instance : Inhabited Sp := ⟨⟨0, 0⟩⟩
def encSp (s : Sp) : List Value := [.int .u32 s.lo, .int .u32 s.hi]
def cmpI (a b : Int) : Int := if a < b then -1 else if b < a then 1 else 0

theorem cmp_any (a b : Int) (w : World) : Calls Tryd.prog 54 #[.int .u32 a, .int .u32 b] w fun e w' => e = .returned (.int .i64 (cmpI a b)) ∧ w' = w := by
  have hna : (a != a) = false := by simp
  have hnb : (b != b) = false := by simp
  rcases Int.lt_trichotomy a b with h | h | h
  · have HC := Lib.hid (show cmpI a b = -1 from if_pos h)
    go_enter Tryd.func54, Tryd.ntmps54
    go_wp2
    go_ret
    exact ⟨ret_int HC.out.symm, rfl⟩
  · subst h
    have HC := Lib.hid (show cmpI a a = 0 from by unfold cmpI; simp)
    have h1 : decide (a < a) = false := by simp
    go_enter Tryd.func54, Tryd.ntmps54
    go_wp2
    go_ret
    exact ⟨ret_int HC.out.symm, rfl⟩
  · have HC := Lib.hid (show cmpI a b = 1 from by unfold cmpI; rw [if_neg (by omega), if_pos h])
    have h1 : decide (a < b) = false := by simp; omega
    go_enter Tryd.func54, Tryd.ntmps54
    go_wp2
    go_ret
    exact ⟨ret_int HC.out.symm, rfl⟩

set_option maxHeartbeats 1000000 in
theorem closure_any (x y : Sp) (W : World) : Calls Tryd.prog 53 #[.agg #[.int .u32 x.lo, .int .u32 x.hi], .agg #[.int .u32 y.lo, .int .u32 y.hi]] W fun e w' => e = .returned (.int .i64 (cmpI x.lo y.lo)) ∧ ∃ q os', w' = grow (W.drewN q) os' := by
  go_enter Tryd.func53, Tryd.ntmps53
  go_wp2_with (go_at_call 54; refine (cmp_any _ _ _).mono ?_; rintro e w' ⟨rfl, rfl⟩)
  go_ret
  exact ⟨rfl, 0, _, by rw [Go.Sort.alloc_eq_grow, Go.Sort.alloc_eq_grow, Go.Sort.grow_grow]; rfl⟩

theorem cmpLays (blk off size : Nat) (w : World) : CmpLays Tryd.prog 53 #[] encSp 2 (fun x y => cmpI x.lo y.lo) blk off size w := fun _ _ _ _ x y => closure_any x y _
theorem ltSp (x y : Sp) : ltOf (fun x y : Sp => cmpI x.lo y.lo) x y = decide (x.lo < y.lo) := by
  unfold ltOf cmpI
  by_cases h1 : x.lo < y.lo
  · simp [h1]
  · by_cases h2 : y.lo < x.lo <;> simp [h1, h2]
theorem swoSp : SWO (ltOf fun x y : Sp => cmpI x.lo y.lo) where
  irrefl x := by rw [ltSp]; simp
  trans x y z h1 h2 := by rw [ltSp] at *; simp at *; omega
  ntrans x y z h1 h2 := by rw [ltSp] at *; simp at *; omega

theorem sort_any (base g n cap : Nat) (zs : List Sp) (w : World) (h : Own w base (some ⟨g, 0, none⟩) n cap zs) (hn : n ≤ 1000000) (hb : base ≤ g) :
    Calls Tryd.prog 52 #[.slice (some ⟨g, 0, none⟩) n cap, .func (.func 53) #[] #[]] w fun e w' => e = .returned (.tuple #[]) ∧ ∃ zs' : List Sp, zs'.Perm zs ∧ zs'.Pairwise (fun a b => a.lo ≤ b.lo) ∧ SpS w' w'.heap.size (some ⟨g, 0, none⟩) n zs' ∧ Below base w w' := by
  have hl : zs.length = n := by have := h.1; rw [prc_length] at this; omega
  obtain ⟨cur, hblk⟩ : ∃ cur, w.heap[g]? = some (.cells cur 37 (0, 0)) := by
    rcases h.2 with ⟨h1, _⟩ | ⟨g', cap', cur, e, _, hblk, _⟩
    · cases h1
    · cases e; exact ⟨cur, hblk⟩
  have hP : SpS w w.heap.size (some ⟨g, 0, none⟩) n zs := by
    obtain ⟨_, _, e1, hP⟩ := Prs.of_row h
    cases e1
    exact hP
  have hg : g < w.heap.size := (Array.getElem?_eq_some_iff.1 hblk).1
  have hH : HoldsK encSp 2 w g 0 zs.toArray := by
    intro t ht
    rw [Go.Sort.size_flatK] at ht
    rw [Go.Sort.get_flatK _ _ _ _ ht]
    have ht2 : t / 2 < zs.length := by simp at ht; omega
    have hz : zs[t / 2]? = some zs[t / 2] := List.getElem?_eq_getElem ht2
    obtain ⟨b', off', e, _, c0, c1⟩ := SpS.cells hP (t / 2) _ hz
    cases e
    have hd : zs.toArray[t / 2]! = zs[t / 2] := by simp [ht2]
    rw [hd]
    refine ⟨?_, by simp [World.frozen?, hblk]⟩
    rcases Nat.mod_two_eq_zero_or_one t with h2 | h2
    · rw [h2, show 0 + t = 0 + t / 2 * 2 from by omega, c0]; rfl
    · rw [h2, show 0 + t = 0 + t / 2 * 2 + 1 from by omega, c1]; rfl
  have eg : ∀ args w, (callFunc 53 args).run Tryd.prog w = .ok (.enter 53 args) w := enters_of Tryd.func53 (by kernel_rfl) rfl
  have hcon := AnyQ.slices_SortFunc Tryd.sortSp 2 Tryd.isAgg37 Tryd.sizeOf37 encSp (fun _ => rfl) (fun x v hv => by simp [encSp] at hv; rcases hv with rfl | rfl <;> rfl) (fun x y => cmpI x.lo y.lo) swoSp 53 #[] g 0 cap zs.toArray w eg (cmpLays g 0 zs.toArray.size w) hH hg (by simp; omega)
  change Calls Tryd.prog 52 _ _ _ at hcon
  have hsz : zs.toArray.size = n := by simp [hl]
  rw [hsz] at hcon
  refine hcon.mono ?_
  rintro e w' ⟨rfl, d', m, os, hp, hs, rfl⟩
  have hds : d'.size = n := by rw [hp.1, hsz]
  have hperm : d'.toList.Perm zs := by
    have h3 := hp.2.2
    rw [Array.extract_eq_self_of_le (by omega), Array.extract_eq_self_of_le (by omega)] at h3
    simpa using h3
  have hH2 : HoldsK encSp 2 (sortWorldK encSp 2 w g 0 m d' os) g 0 d' := by
    unfold sortWorldK
    exact Go.Sort.holdsK_grow encSp 2 _ os g 0 d' (by simp [putRowK, Go.Sort.ahead]; exact hg) (Go.Sort.holdsK_putRowK encSp 2 _ g 0 zs.toArray d' (Go.Sort.holdsK_ahead encSp 2 w m g 0 _ hH) (by rw [hds, hsz]))
  have hbel : Below base w (sortWorldK encSp 2 w g 0 m d' os) := by
    have hm : ((Go.Sort.mapBlock (Go.Sort.ahead w m) g (Go.Sort.putCells id 0 (Go.Sort.flatK encSp 2 d'))).heap).size = w.heap.size := by simp [Go.Sort.mapBlock, Go.Sort.ahead]
    refine ⟨rfl, rfl, rfl, ?_, fun k hk => ?_⟩
    · show w.heap.size ≤ (_ ++ os).size
      rw [Array.size_append]
      show w.heap.size ≤ ((Go.Sort.mapBlock (Go.Sort.ahead w m) g (Go.Sort.putCells id 0 (Go.Sort.flatK encSp 2 d'))).heap).size + os.size
      omega
    · show (((Go.Sort.mapBlock (Go.Sort.ahead w m) g (Go.Sort.putCells id 0 (Go.Sort.flatK encSp 2 d'))).heap) ++ os)[k]? = _
      rw [Array.getElem?_append_left (by omega)]
      show (w.heap.modify g _)[k]? = _
      rw [Array.getElem?_modify, if_neg (by omega)]
  refine ⟨rfl, d'.toList, hperm, ?_, ?_, hbel⟩
  · rw [List.pairwise_iff_getElem]
    intro i j hi hj hij
    have := hs i j (Nat.zero_le _) hij (by simpa [hds] using hj)
    rw [ltSp] at this
    simp at hi hj
    simp [hi, hj] at this
    exact this
  · refine ⟨by simp [hds], fun j z hj => ⟨g, 0, rfl, ?_, ?_⟩⟩
    · have := hbel.size; omega
    · have hjl : j < d'.size := by have := (List.getElem?_eq_some_iff.1 hj).1; simpa using this
      have hz : d'[j]! = z := by
        have := (List.getElem?_eq_some_iff.1 hj).2
        simp at this
        simp [hjl, this]
      have c0 := (hH2.cell hjl (c := 0) (by decide)).1
      have c1 := (hH2.cell hjl (c := 1) (by decide)).1
      rw [hz] at c0 c1
      exact ⟨c0, c1⟩
end Go.Proofs.YtmdhbbibghpijaaDoor
