/- ivl.Make: the walk. -/
import Derived.Test.YtmdhbbibghpijaaDoorIvlMk
namespace Go.Proofs.YtmdhbbibghpijaaDoor
open Go.RowKit

theorem mem_filter_emp (zs : List Sp) (k : Int) : mem (zs.filter fun s => !emp s) k ↔ mem zs k := by
  unfold mem
  constructor
  · rintro ⟨s, hs, hk⟩
    exact ⟨s, (List.mem_filter.1 hs).1, hk⟩
  · rintro ⟨s, hs, hk⟩
    refine ⟨s, List.mem_filter.2 ⟨hs, ?_⟩, hk⟩
    unfold emp
    obtain ⟨h1, h2⟩ := hk
    simp
    omega

theorem own_keep {w w' : World} {base : Nat} {e : TypeId} {size : Nat} {v : Value} {n : Nat} {xs : List Value} (h : w.ownsRow base e size v n xs) (hk : Keep w w') : w'.ownsRow base e size v n xs := ownsRow_only h (Only.of_keep (fun _ => False) hk) (fun _ _ h => h)
/-- slices.SortFunc on a row of one's own, nil too. -/
theorem sort_all (base : Nat) (A : Option Addr) (n c : Nat) (zs : List Sp) (w : World) (h : Own w base A n c zs) (hn : n ≤ 1000000) (hb : base ≤ w.heap.size) :
    Calls Tryd.prog 52 #[.slice A n c, .func (.func 53) #[] #[]] w fun e w' => e = .returned (.tuple #[]) ∧ ∃ zs' : List Sp, zs'.Perm zs ∧ zs'.Pairwise (fun a b => a.lo ≤ b.lo) ∧ SpS w' w'.heap.size A n zs' ∧ Below base w w' := by
  rcases h.2 with ⟨h1, rfl⟩ | ⟨g, cap, cur, e, hg, hblk, h2⟩
  · cases h1
    have hz : zs = [] := List.eq_nil_of_length_eq_zero (by have := h.1; rw [prc_length] at this; omega)
    subst hz
    have hcon := AnyF.slices_SortFunc_none Tryd.sortSp none 0 (.func (.func 53) #[] #[]) w
    change Calls Tryd.prog 52 _ _ _ at hcon
    refine hcon.mono ?_
    rintro e w' ⟨rfl, rfl⟩
    exact ⟨rfl, [], List.Perm.refl _, List.Pairwise.nil, Prs.nil _ _ _, Below.refl _ _⟩
  · cases e
    exact sort_any base g n c zs w h hn hg

/-- Nothing has room for nothing; and where the spans lie there are spans alone, in a block from base on. -/
def Knd (base : Nat) (w : World) (A : Option Addr) (c : Nat) : Prop := (A = none → c = 0) ∧ ∀ a, A = some a → base ≤ a.block ∧ ∃ cur, w.heap[a.block]? = some (.cells cur 37 (0, 0))
theorem Knd.mono {base base' : Nat} {w : World} {A : Option Addr} {c : Nat} (h : Knd base w A c) (hb : base' ≤ base) : Knd base' w A c := ⟨h.1, fun a e => ⟨Nat.le_trans hb (h.2 a e).1, (h.2 a e).2⟩⟩
/-- What a function of sets answers: a slice with the set of P. -/
def Gives (w : World) (P : Int → Prop) (N : Nat) (e : Ending) (w' : World) : Prop :=
  Keep w w' ∧ ∃ A c r, e = .returned (.slice A r.length c) ∧ SpS w' w'.heap.size A r.length r ∧ r.length ≤ c ∧ Knd w.heap.size w' A c ∧ r.length ≤ N ∧ IsSet r P
theorem own_gives {w' : World} {base : Nat} {A : Option Addr} {c : Nat} {r : List Sp} (h : Own w' base A r.length c r) : SpS w' w'.heap.size A r.length r ∧ r.length ≤ c ∧ Knd base w' A c := by
  obtain ⟨_, _, e1, hP⟩ := Prs.of_row h
  cases e1
  refine ⟨hP, ?_⟩
  rcases h.2 with ⟨h1, h0⟩ | ⟨g, cap, cur, h1, hbs, h3, h2, _⟩
  · simp at h1
    exact ⟨by omega, fun _ => h1.2.2, (fun a e => by rw [h1.1] at e; cases e)⟩
  · simp at h1
    obtain ⟨rfl, rfl⟩ := h1
    exact ⟨h2, (fun h => by cases h), (fun a e => by cases e; exact ⟨hbs, cur, h3⟩)⟩

set_option maxRecDepth 100000 in
set_option maxHeartbeats 4000000 in
theorem make_own (A : Option Addr) (n c : Nat) (zs : List Sp) (w : World) (h : SpS w w.heap.size A n zs) (hc : A = none → c = 0) (hn : n ≤ 100000) (hok : ∀ s ∈ zs, s.ok) :
    Calls Tryd.prog 29 #[.slice A n c] w fun e w' => Keep w w' ∧ ∃ A c r, e = .returned (.slice A r.length c) ∧ Own w' w.heap.size A r.length c r ∧ r.length ≤ n ∧ IsSet r (mem zs) := by
  have HN := Lib.hid h.len
  have HC := Lib.hid (clone_sp A n c zs w h hc (by omega))
  have HOK := Lib.hid hok
  obtain ⟨i0, hi, hz0, hz1, hz2⟩ := info_parts infoSp
  clear h hc hok
  go_enter Tryd.func29, Tryd.ntmps29
  go_wp2_with (go_at_call 38; refine HC.out.mono ?_; rintro e w1 ⟨A1, c1, rfl, ho1, hk1⟩)
  go_at_call 50
  refine (del_any A1 n c1 zs w1 w.heap.size ho1 (by omega) hk1.size).mono ?_
  rintro e w2 ⟨c2, rfl, ho2, hb2⟩
  obtain ⟨ys, hys⟩ : ∃ ys, ys = zs.filter fun s => !emp s := ⟨_, rfl⟩
  rw [← hys] at ho2 ⊢
  have hyl : ys.length ≤ n := by rw [hys, ← HN.out]; exact List.length_filter_le _ _
  have hyok : ∀ s ∈ ys, s.ok ∧ s.lo ≤ s.hi := by
    intro s hs
    rw [hys, List.mem_filter] at hs
    refine ⟨HOK.out s hs.1, ?_⟩
    have := hs.2
    unfold emp at this
    simp at this
    exact this
  have hym : ∀ k, mem ys k ↔ mem zs k := fun k => by rw [hys]; exact mem_filter_emp zs k
  have hK2 : Keep w w2 := Below.trans hk1 (hb2.mono (Nat.le_refl _))
  clear hys ho1 hk1 hb2 HC
  go_wp2_with fail
  go_at_call 52
  refine (sort_all w.heap.size A1 ys.length c2 ys w2 ho2 (by omega) hK2.size).mono ?_
  rintro e w3 ⟨rfl, us, hperm, hsort, hP3, hb3⟩
  have hul : us.length = ys.length := hperm.length_eq
  have huok : ∀ s ∈ us, s.ok ∧ s.lo ≤ s.hi := fun s hs => hyok s (hperm.mem_iff.1 hs)
  have hum : ∀ k, mem us k ↔ mem zs k := fun k => (mem_perm hperm).trans (hym k)
  have hK3 : Keep w w3 := Below.trans hK2 hb3
  obtain ⟨m, hm⟩ : ∃ m, m = ys.length := ⟨_, rfl⟩
  rw [← hm] at hP3 hul hyl ⊢
  have HU := Lib.hid huok
  have HM := Lib.hid hum
  have HSO := Lib.hid hsort
  have HP3 := Lib.hid hP3
  have HL := Lib.hid hul
  have hm6 : (m : Int) ≤ 100000 := by omega
  clear ho2 hym hyok hperm hsort hP3 hb3 hK2 hul huok hum hm
  have oN : Own w3 w3.heap.size none 0 0 [] := ⟨by simp [prc], .inl ⟨rfl, rfl⟩⟩
  go_wp2_with fail
  go_loopw [4, 15] (fun v i wr => ∃ (j : Nat) (r : List Sp) (A' : Option Addr) (c' : Nat), j ≤ m ∧ i = .int .i64 j ∧ v = .slice A' r.length c' ∧ Own wr w3.heap.size A' r.length c' r ∧ Keep w3 wr ∧ Mk us j r) (fun v i _ => m - (intOf i).toNat)
  case atStart => exact ⟨0, [], none, 0, Nat.zero_le _, rfl, rfl, oN, Keep.refl _, Rt.nil, by simp, Nat.le_refl _, fun k => by simp, by simp⟩
  case round =>
    obtain ⟨j, r, A', c', hj, rfl, rfl, hown, hk, hmk⟩ := hrel
    by_cases hlt : j < m
    · have hlj : j < us.length := by rw [HL.out]; exact hlt
      obtain ⟨x, hx⟩ : ∃ x, us[j]? = some x := ⟨_, List.getElem?_eq_getElem hlj⟩
      obtain ⟨hxok, hxe⟩ := HU.out x (List.mem_of_getElem? hx)
      obtain ⟨b, off, e, hb, c0, c1⟩ := SpS.cells (HP3.out.keep hk (Nat.le_refl _)) j x hx
      subst e
      have hjm : (j : Int) < (m : Int) := by omega
      have HX := Lib.hid hx
      have HXA := Lib.hid (SpAt.new wr x)
      have HMK := Lib.hid hmk
      have hrj : r.length ≤ j := hmk.num
      have HOWN := Lib.hid hown
      clear hx hmk hown hlj
      rcases snoc_cases r with hr | ⟨q, t, hr⟩
      · subst hr
        have HS := Lib.hid (show ∀ w', Keep (wr.alloc (.cells #[.int .u32 x.lo, .int .u32 x.hi] 37)) w' → Keep (wr.alloc (.cells #[.int .u32 x.lo, .int .u32 x.hi] 37)) w' ∧ (w'.cell? ⟨wr.heap.size, 0, none⟩ = some (.int .u32 x.lo) ∧ w'.cell? ⟨wr.heap.size, 1, none⟩ = some (.int .u32 x.hi)) from
          fun w' h => ⟨h, (HXA.out.keep h).cells⟩)
        have hKc := (Keep.refl (wr.alloc (.cells #[.int .u32 x.lo, .int .u32 x.hi] 37))).drew
        go_wp2_with fail
        refine seq_region (S := fun w' => Keep (wr.alloc (.cells #[.int .u32 x.lo, .int .u32 x.hi] 37)) w' ∧ (w'.cell? ⟨wr.heap.size, 0, none⟩ = some (.int .u32 x.lo) ∧ w'.cell? ⟨wr.heap.size, 1, none⟩ = some (.int .u32 x.hi))) [⟨0, 128, 4194304⟩, ⟨1, 4194304, 8388608⟩, ⟨2, 8388608, 16777216⟩, ⟨4, 16777232, 33554432⟩, ⟨4, 16777344, 67108864⟩, ⟨28, 117440512, 134217728⟩, ⟨36, 150994944, 268435456⟩, ⟨4, 16777280, 536870912⟩, ⟨196, 822083584, 1073741824⟩, ⟨260, 1090519040, 2147483648⟩, ⟨516, 2164260864, 4294967296⟩] [(0, false), (1, false), (2, false), (3, false), (4, false), (5, false), (6, false), (7, false), (8, true), (9, false), (10, false)] rfl (by kernel_rfl) (by kernel_rfl) (fun _ _ d _ _ h => by cases d <;> exact h) (HS.out _ hKc) ?_
        simp only [rowsOf, rowAt, gslot, List.map_cons, List.map_nil, List.getElem?_toArray, List.getElem?_cons_zero, List.getElem?_cons_succ, Option.bind_some]
        repeat (first
          | (refine seq_take (v := ?_) (a' := ?_) (by rfl) ?_ ?_ ?_
             rotate_left 2
             · (intro w hSw; obtain ⟨-, hSw⟩ := hSw; go_split_ands; go_simp; with_reducible rfl)
             · (simp only [Act.put, List.setIfInBounds_toArray, List.set_cons_zero, List.set_cons_succ]; with_reducible rfl))
          | (refine seq_callv (f := 55) (args := ?_) (v := ?_) (a' := ?_) (by rfl) (by rfl) (by rfl) Tryd.call55 ?_ ?_ ?_ ?_
             rotate_left 3
             · (go_simp; with_reducible rfl)
             · ((with_reducible refine (apart_any x x _ hxok hxok).mono ?_)
                rintro e w' ⟨rfl, hk⟩
                refine ⟨?_, HS.out _ (hKc.trans hk)⟩
                with_reducible rfl)
             · (simp only [Act.put, List.setIfInBounds_toArray, List.set_cons_zero, List.set_cons_succ]; with_reducible rfl)
             clear hKc
             intro w2 hw2
             have hKc := hw2.1
             clear hw2)
          | (refine seq_skip (a' := ?_) (HS.out _ hKc) (by rfl) ?_ ?_
             rotate_left
             · (simp only [Act.put, List.setIfInBounds_toArray, List.set_cons_zero, List.set_cons_succ]; with_reducible rfl)))
        refine seq_nil ?_
        generalize (wr.alloc (.cells #[.int .u32 x.lo, .int .u32 x.hi] 37)).drew = W5 at hKc ⊢
        obtain ⟨x0, x1⟩ := (HXA.out.keep hKc).cells
        have hkw : Keep wr W5 := ((Keep.refl wr).alloc _).trans hKc
        have HAP := Lib.hid (show Mk us (j + 1) ([] ++ [x]) from HMK.out.append HSO.out HX.out hxok hxe (by simp))
        have hml : 0 + 1 ≤ maxLen := by unfold maxLen; omega
        have hby : (0 + 1) * 8 ≤ 140737488355328 := by omega
        have hk5 := hkw.alloc (.cells #[.int .u32 x.lo, .int .u32 x.hi] 37)
        have hbs : w3.heap.size ≤ (W5.alloc (.cells #[.int .u32 x.lo, .int .u32 x.hi] 37)).heap.size := (hk.trans hk5).size
        have HO5 := Lib.hid (own_keep HOWN.out hk5)
        have HP5 := Lib.hid (Prs.made (f := fun s : Sp => Value.int .u32 s.lo) (g := fun s : Sp => Value.int .u32 s.hi) W5 #[.int .u32 x.lo, .int .u32 x.hi] 37 [x] rfl)
        go_wp2_with (first
          | (at_builtin; refine wpList_append_prs rfl _ _ 32 rfl w3.heap.size 37 i0 (.agg #[.int .u32 0, .int .u32 0]) 8 Tryd.underlying32 hi hz0 hz1 hz2 rfl spOne _ 0 [] rfl HO5.out _ _ 1 1 [x] rfl HP5.out (fun h => by cases h) hml hby hbs ?_; intro A2 c2' w5 hown5 hgrow5 _))
        go_roundw
        case rel =>
          refine ⟨j + 1, [] ++ [x], A2, c2', hlt, by go_num, by simp, ?_, ?_, HAP.out⟩
          · simpa using hown5
          · exact Only.keep (hk.trans hk5) (Only.grown (S := fun k => w3.heap.size ≤ k) (Only.refl _ _) hgrow5 (fun k _ e => (HOWN.out.lt k e).1)) (fun k e => e)
        case measure => simp [intOf]; omega
      · subst hr
        have hq : (q ++ [t]).length = q.length + 1 := by simp
        rw [hq] at HOWN hrj ⊢
        have htok := HMK.out.ok t (by simp)
        obtain ⟨g, hA, hgb, hgw, l1, l0, lf, -⟩ := own_last HOWN.out 0
        subst hA
        have hqi : IntKind.i64.wrap (q.length : Int) = (q.length : Int) := by rw [IntKind.wrap_i64]; omega
        have hq0 : (0 : Int) ≤ (q.length : Int) := by omega
        have hq1 : (q.length : Int) < (q.length : Int) + 1 := by omega
        have hq2 : ((q.length + 1 : Nat) : Int) - 1 = (q.length : Int) := by omega
        have HLC := Lib.hid (And.intro l0 l1)
        clear l0 l1
        have HS := Lib.hid (show ∀ w', Keep (wr.alloc (.cells #[.int .u32 x.lo, .int .u32 x.hi] 37)) w' → Keep (wr.alloc (.cells #[.int .u32 x.lo, .int .u32 x.hi] 37)) w' ∧ ((w'.cell? ⟨wr.heap.size, 0, none⟩ = some (.int .u32 x.lo) ∧ w'.cell? ⟨wr.heap.size, 1, none⟩ = some (.int .u32 x.hi)) ∧ (w'.cell? ⟨g, q.length * 2, none⟩ = some (.int .u32 t.lo) ∧ w'.cell? ⟨g, q.length * 2 + 1, none⟩ = some (.int .u32 t.hi))) from
          fun w' h => ⟨h, (HXA.out.keep h).cells, ((((Keep.refl wr).alloc _).trans h).cell (p := ⟨g, q.length * 2, none⟩) hgw).trans HLC.out.1, ((((Keep.refl wr).alloc _).trans h).cell (p := ⟨g, q.length * 2 + 1, none⟩) hgw).trans HLC.out.2⟩)
        have hKc := (Keep.refl (wr.alloc (.cells #[.int .u32 x.lo, .int .u32 x.hi] 37))).drew
        cases hap : apt t x
        · go_wp2_with fail
          refine seq_region (S := fun w' => Keep (wr.alloc (.cells #[.int .u32 x.lo, .int .u32 x.hi] 37)) w' ∧ ((w'.cell? ⟨wr.heap.size, 0, none⟩ = some (.int .u32 x.lo) ∧ w'.cell? ⟨wr.heap.size, 1, none⟩ = some (.int .u32 x.hi)) ∧ (w'.cell? ⟨g, q.length * 2, none⟩ = some (.int .u32 t.lo) ∧ w'.cell? ⟨g, q.length * 2 + 1, none⟩ = some (.int .u32 t.hi)))) [⟨0, 128, 4194304⟩, ⟨1, 4194304, 8388608⟩, ⟨2, 8388608, 16777216⟩, ⟨4, 16777232, 33554432⟩, ⟨4, 16777344, 67108864⟩, ⟨28, 117440512, 134217728⟩, ⟨36, 150994944, 268435456⟩, ⟨4, 16777280, 536870912⟩, ⟨196, 822083584, 1073741824⟩, ⟨260, 1090519040, 2147483648⟩, ⟨516, 2164260864, 4294967296⟩] [(0, false), (1, false), (2, false), (3, false), (4, false), (5, false), (6, false), (7, false), (8, true), (9, false), (10, false)] rfl (by kernel_rfl) (by kernel_rfl) (fun _ _ d _ _ h => by cases d <;> exact h) (HS.out _ hKc) ?_
          simp only [rowsOf, rowAt, gslot, List.map_cons, List.map_nil, List.getElem?_toArray, List.getElem?_cons_zero, List.getElem?_cons_succ, Option.bind_some]
          repeat (first
            | (refine seq_take (v := ?_) (a' := ?_) (by rfl) ?_ ?_ ?_
               rotate_left 2
               · (intro w hSw; obtain ⟨-, hSw⟩ := hSw; go_split_ands; go_simp; with_reducible rfl)
               · (simp only [Act.put, List.setIfInBounds_toArray, List.set_cons_zero, List.set_cons_succ]; with_reducible rfl))
            | (refine seq_callv (f := 55) (args := ?_) (v := ?_) (a' := ?_) (by rfl) (by rfl) (by rfl) Tryd.call55 ?_ ?_ ?_ ?_
               rotate_left 3
               · (go_simp; with_reducible rfl)
               · ((with_reducible refine (apart_is t x false _ htok hxok hap).mono ?_)
                  rintro e w' ⟨rfl, hk⟩
                  refine ⟨?_, HS.out _ (hKc.trans hk)⟩
                  with_reducible rfl)
               · (simp only [Act.put, List.setIfInBounds_toArray, List.set_cons_zero, List.set_cons_succ]; with_reducible rfl)
               clear hKc
               intro w2 hw2
               have hKc := hw2.1
               clear hw2)
            | (refine seq_skip (a' := ?_) (HS.out _ hKc) (by rfl) ?_ ?_
               rotate_left
               · (simp only [Act.put, List.setIfInBounds_toArray, List.set_cons_zero, List.set_cons_succ]; with_reducible rfl)))
          refine seq_nil ?_
          obtain ⟨x0, x1⟩ := (HXA.out.keep hKc).cells
          have hkw : Keep wr w2 := ((Keep.refl wr).alloc _).trans hKc
          have HO5 := Lib.hid (own_keep HOWN.out hkw)
          have HAP := Lib.hid (show Mk us (j + 1) (q ++ [mrg t x]) from HMK.out.merge HSO.out HX.out hxok hap)
          obtain ⟨g', hA', hgb', hgw', m1, m0, mf, hownM⟩ := own_last HO5.out (max t.hi x.hi)
          cases hA'
          have HOM := Lib.hid hownM
          have hmx : t.hi < x.hi ∨ t.hi = x.hi ∨ x.hi < t.hi := by omega
          have hKM : ∀ v, Keep w3 (w2.setCell ⟨g, q.length * 2 + 1, none⟩ v) := fun v => (Below.trans hk (Below.mono hkw hk.size)).setCell (p := ⟨g, q.length * 2 + 1, none⟩) hgb' v
          have HKM := Lib.hid hKM
          have hfin : ∀ v : Int, v = max t.hi x.hi → Own (w2.setCell ⟨g, q.length * 2 + 1, none⟩ (.int .u32 v)) w3.heap.size (some ⟨g, 0, none⟩) (q ++ [mrg t x]).length c' (q ++ [mrg t x]) := fun v hv => by
            subst hv
            have hl : (q ++ [mrg t x]).length = q.length + 1 := by simp
            rw [hl]
            exact HOM.out
          have HFI := Lib.hid hfin
          clear hownM hKM hfin
          rcases hmx with hlx | hlx | hlx
          · have HV := Lib.hid (show x.hi = max t.hi x.hi by omega)
            go_wp2_with fail
            go_region
            go_wp2_with fail
            go_roundw
            case rel => exact ⟨j + 1, q ++ [mrg t x], some ⟨g, 0, none⟩, c', hlt, by go_num, by simp, (by first | exact HFI.out _ rfl | exact HFI.out _ HV.out), (HKM.out _).drew, HAP.out⟩
            case measure => simp [intOf]; omega
          · have HV := Lib.hid (show t.hi = max t.hi x.hi by omega)
            have HV2 := Lib.hid (show x.hi = max t.hi x.hi by omega)
            go_wp2_with fail
            go_region
            all_goals go_wp2_with fail
            all_goals go_roundw
            case rel => exact ⟨j + 1, q ++ [mrg t x], some ⟨g, 0, none⟩, c', hlt, by go_num, by simp, (by first | exact HFI.out _ rfl | exact HFI.out _ HV.out | exact HFI.out _ HV2.out), (HKM.out _).drew, HAP.out⟩
            case measure => simp [intOf]; omega
          · have HV := Lib.hid (show t.hi = max t.hi x.hi by omega)
            go_wp2_with fail
            go_region
            go_wp2_with fail
            go_roundw
            case rel => exact ⟨j + 1, q ++ [mrg t x], some ⟨g, 0, none⟩, c', hlt, by go_num, by simp, (by first | exact HFI.out _ rfl | exact HFI.out _ HV.out), (HKM.out _).drew, HAP.out⟩
            case measure => simp [intOf]; omega
        · go_wp2_with fail
          refine seq_region (S := fun w' => Keep (wr.alloc (.cells #[.int .u32 x.lo, .int .u32 x.hi] 37)) w' ∧ ((w'.cell? ⟨wr.heap.size, 0, none⟩ = some (.int .u32 x.lo) ∧ w'.cell? ⟨wr.heap.size, 1, none⟩ = some (.int .u32 x.hi)) ∧ (w'.cell? ⟨g, q.length * 2, none⟩ = some (.int .u32 t.lo) ∧ w'.cell? ⟨g, q.length * 2 + 1, none⟩ = some (.int .u32 t.hi)))) [⟨0, 128, 4194304⟩, ⟨1, 4194304, 8388608⟩, ⟨2, 8388608, 16777216⟩, ⟨4, 16777232, 33554432⟩, ⟨4, 16777344, 67108864⟩, ⟨28, 117440512, 134217728⟩, ⟨36, 150994944, 268435456⟩, ⟨4, 16777280, 536870912⟩, ⟨196, 822083584, 1073741824⟩, ⟨260, 1090519040, 2147483648⟩, ⟨516, 2164260864, 4294967296⟩] [(0, false), (1, false), (2, false), (3, false), (4, false), (5, false), (6, false), (7, false), (8, true), (9, false), (10, false)] rfl (by kernel_rfl) (by kernel_rfl) (fun _ _ d _ _ h => by cases d <;> exact h) (HS.out _ hKc) ?_
          simp only [rowsOf, rowAt, gslot, List.map_cons, List.map_nil, List.getElem?_toArray, List.getElem?_cons_zero, List.getElem?_cons_succ, Option.bind_some]
          repeat (first
            | (refine seq_take (v := ?_) (a' := ?_) (by rfl) ?_ ?_ ?_
               rotate_left 2
               · (intro w hSw; obtain ⟨-, hSw⟩ := hSw; go_split_ands; go_simp; with_reducible rfl)
               · (simp only [Act.put, List.setIfInBounds_toArray, List.set_cons_zero, List.set_cons_succ]; with_reducible rfl))
            | (refine seq_callv (f := 55) (args := ?_) (v := ?_) (a' := ?_) (by rfl) (by rfl) (by rfl) Tryd.call55 ?_ ?_ ?_ ?_
               rotate_left 3
               · (go_simp; with_reducible rfl)
               · ((with_reducible refine (apart_is t x true _ htok hxok hap).mono ?_)
                  rintro e w' ⟨rfl, hk⟩
                  refine ⟨?_, HS.out _ (hKc.trans hk)⟩
                  with_reducible rfl)
               · (simp only [Act.put, List.setIfInBounds_toArray, List.set_cons_zero, List.set_cons_succ]; with_reducible rfl)
               clear hKc
               intro w2 hw2
               have hKc := hw2.1
               clear hw2)
            | (refine seq_skip (a' := ?_) (HS.out _ hKc) (by rfl) ?_ ?_
               rotate_left
               · (simp only [Act.put, List.setIfInBounds_toArray, List.set_cons_zero, List.set_cons_succ]; with_reducible rfl)))
          refine seq_nil ?_
          obtain ⟨x0, x1⟩ := (HXA.out.keep hKc).cells
          have hkw : Keep wr w2 := ((Keep.refl wr).alloc _).trans hKc
          have HAP := Lib.hid (show Mk us (j + 1) ((q ++ [t]) ++ [x]) from HMK.out.append HSO.out HX.out hxok hxe (fun s hs => by have := rt_last HMK.out.rt s hs; unfold apt at hap; simp at hap; omega))
          have hml : (q.length + 1) + 1 ≤ maxLen := by unfold maxLen; omega
          have hby : ((q.length + 1) + 1) * 8 ≤ 140737488355328 := by omega
          have hk5 := hkw.alloc (.cells #[.int .u32 x.lo, .int .u32 x.hi] 37)
          have hbs : w3.heap.size ≤ (w2.alloc (.cells #[.int .u32 x.lo, .int .u32 x.hi] 37)).heap.size := (hk.trans hk5).size
          have HO5 := Lib.hid (own_keep HOWN.out hk5)
          have HP5 := Lib.hid (Prs.made (f := fun s : Sp => Value.int .u32 s.lo) (g := fun s : Sp => Value.int .u32 s.hi) w2 #[.int .u32 x.lo, .int .u32 x.hi] 37 [x] rfl)
          go_wp2_with (first
            | (at_builtin; refine wpList_append_prs rfl _ _ 32 rfl w3.heap.size 37 i0 (.agg #[.int .u32 0, .int .u32 0]) 8 Tryd.underlying32 hi hz0 hz1 hz2 rfl spOne _ (q.length + 1) (q ++ [t]) rfl HO5.out _ _ 1 1 [x] rfl HP5.out (fun h => by cases h) hml hby hbs ?_; intro A2 c2' w5 hown5 hgrow5 _))
          go_roundw
          case rel =>
            refine ⟨j + 1, (q ++ [t]) ++ [x], A2, c2', hlt, by go_num, by simp, ?_, ?_, HAP.out⟩
            · simpa using hown5
            · exact Only.keep (hk.trans hk5) (Only.grown (S := fun k => w3.heap.size ≤ k) (Only.refl _ _) hgrow5 (fun k _ e => (HOWN.out.lt k e).1)) (fun k e => e)
          case measure => simp [intOf]; omega
    · obtain rfl : j = m := by omega
      have hfull : us.take j = us := List.take_of_length_le (by rw [HL.out]; exact Nat.le_refl _)
      have HF := Lib.hid hfull
      have HMK := Lib.hid hmk
      have HO := Lib.hid hown
      clear hfull hmk hown
      go_wp2_with fail
      go_ret
      have hnum := HMK.out.num
      exact ⟨hK3.trans hk, A', c', r, rfl, ownsRow_le HO.out hK3.size, by omega, HMK.out.rt, fun k => by rw [HMK.out.mem k, HF.out]; exact HM.out k, HMK.out.ok⟩
theorem make_any (A : Option Addr) (n c : Nat) (zs : List Sp) (w : World) (h : SpS w w.heap.size A n zs) (hc : A = none → c = 0) (hn : n ≤ 100000) (hok : ∀ s ∈ zs, s.ok) :
    Calls Tryd.prog 29 #[.slice A n c] w (Gives w (mem zs) n) := by
  refine (make_own A n c zs w h hc hn hok).mono ?_
  rintro e w' ⟨hk, A', c', r, rfl, ho, hl, hs⟩
  obtain ⟨g1, g2, g3⟩ := own_gives ho
  exact ⟨hk, A', c', r, rfl, g1, g2, g3, hl, hs⟩
end Go.Proofs.YtmdhbbibghpijaaDoor
