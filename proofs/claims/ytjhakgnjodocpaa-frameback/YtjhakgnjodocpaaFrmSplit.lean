/- frame.walk under Split's closure; frame.Split. -/
import Derived.Test.YtjhakgnjodocpaaFrmRows
namespace Go.Proofs.Ytjhakgnjodocpaa
open Go.RowKit

theorem infoBytes : (Try.prog.info? 22).map (fun i => (i.zero, i.size, i.bytes)) = some (some (.slice none 0 0), 1, 24) := by kernel_rfl

/-- What the closure leaves. -/
def Took (W : World) (g base : Nat) (vs : List Value) (x : Value) (e : Ending) (W' : World) : Prop :=
  e = .returned (.bool true) ∧ (∃ v', Rws W' g base v' (vs ++ [x])) ∧ Only (OfRws W g base) W W'

set_option maxRecDepth 100000 in
set_option maxHeartbeats 1000000 in
theorem take_any (g base : Nat) (v : Value) (vs : List Value) (A : Option Addr) (n c : Nat) (W : World) (h : Rws W g base v vs) (hb : base ≤ W.heap.size) (hv : vs.length ≤ 1000000) :
    Calls Try.prog 23 #[.slice A n c, .pointer (some ⟨g, 0, none⟩)] W (Took W g base vs (.slice A n c)) := by
  obtain ⟨i0, hi, hz0, hz1, hz2⟩ := info_parts infoBytes
  obtain ⟨hbx, hrow⟩ := h
  have hcell := hbx.cell
  have hbl := hbx.lt
  have HNR := Lib.hid (hbx.not_row (by decide) hrow)
  have HT := Lib.hid (fun q hq => And.intro (hrow.lt q hq).1 (row_type hrow q hq))
  obtain ⟨Av, cv, rfl, -⟩ := Lies.of_row hrow
  go_enter Try.func23, Try.ntmps23
  go_wp2_with (at_builtin; refine wpList_append_own _ rfl _ _ 29 rfl base 22 i0 (.slice none 0 0) 1 24 Try.underlying29 hi hz0 hz1 hz2 rfl (by decide) _ _ _ rfl (hrow.alloc _) ⟨W.heap.size, 0, none⟩ 1 1 [.slice A n c] rfl rfl (cell_one_new _ _ _) (by simp [Value.oneCell']) (by unfold maxLen; omega) (by omega) (by simp; omega) ?_; intro v' w1 hown' hgrow _; obtain ⟨g', cap', rfl⟩ := ownsRow_succ hown'; have hb1 : Boxed w1 g 29 _ := (hbx.alloc _).kept hgrow HNR.out; have hc1 := hb1.cell; have hf1 := hb1.frozen)
  go_ret
  refine ⟨rfl, ⟨_, hb1.set _, ?_⟩, ?_⟩
  · rw [show (vs ++ [Value.slice A n c]).length = vs.length + 1 from by simp]
    exact hown'.kept (grownBy_setCell' w1 g _) (.inr (hb1.not_row (by decide) hown').symm)
  · refine (((Only.refl (OfRws W g base) W).alloc _).grown hgrow (fun k hk e => ?_)).setCell _ _ (.inl rfl)
    obtain ⟨hl, cs, hcs⟩ := HT.out k e
    exact .inr ⟨hl, cs, _, hcs⟩

/-- What walk answers under it. -/
def Walked (w : World) (B g base : Nat) (xs : List Int) (e : Ending) (w' : World) : Prop :=
  ∃ A' n' c' v vs, e = .returned (.tuple #[.slice A' n' c', .int .i64 (spl xs).2.2]) ∧ By w' B A' n' c' (spl xs).2.1 ∧ Rws w' g base v vs ∧ Bod w' base vs (spl xs).1 ∧ Below g w w'

theorem Byt.rest {xs : List Int} (h : Byt xs) (k : Nat) : Byt (xs.drop k) := h.drop k

set_option maxRecDepth 100000 in
set_option maxHeartbeats 2000000 in
theorem walk_any (A : Option Addr) (n c : Nat) (xs : List Int) (w : World) (B g base : Nat) (hy : By w B A n c xs) (hby : Byt xs) (hn : n ≤ 100000) (hBg : B ≤ g) (hgb : g < base) (hbw : base ≤ w.heap.size) (h0 : Rws w g base (.slice none 0 0) []) :
    Calls Try.prog 22 #[.slice A n c, .func (.func 23) #[] #[.pointer (some ⟨g, 0, none⟩)]] w (Walked w B g base xs) := by
  go_enter Try.func22, Try.ntmps22
  go_wp2_with fail
  go_loopw [0] (fun s wr => ∃ A' n' c' ys v vs yss, s = .slice A' n' c' ∧ By wr B A' n' c' ys ∧ Byt ys ∧ n' ≤ n ∧ Rws wr g base v vs ∧ Bod wr base vs yss ∧ Hid ((spl xs).1 = yss ++ (spl ys).1 ∧ (spl xs).2 = (spl ys).2) ∧ yss.length + n' ≤ n ∧ Below g w wr) (fun s _ => match s with | .slice _ m _ => m | _ => 0)
  case atStart => exact ⟨A, n, c, xs, _, [], [], rfl, hy, hby, Nat.le_refl _, h0, Bod.nil _ _, Lib.hid ⟨rfl, rfl⟩, by simp, Below.refl _ _⟩
  case round =>
    obtain ⟨A', n', c', ys, v, vs, yss, rfl, hy', hby', hn', hr, hbod, hsp, hcnt, hbel⟩ := hrel
    have hB' : B ≤ wr.heap.size := Nat.le_trans (by omega) hbel.size
    have hbw' : base ≤ wr.heap.size := Nat.le_trans hbw hbel.size
    have hg' : g ≤ wr.heap.size := by omega
    rcases cutE_three ys with hc | hc | hc
    · obtain ⟨HC0, h1, h2⟩ := cut_yes A' n' c' ys wr B hB' hy' hby' (by omega) hc
      have hl := hy'.len
      have hl1 : ((ys.drop 2).take (hd ys)).length = hd ys := by simp; omega
      have HSP := Lib.hid (spl_yes hc)
      unfold CutOk at HC0
      have HC := Lib.hid HC0
      have HL1 := Lib.hid hl1
      clear HC0 hc hl1
      go_wp2_with fail
      refine HC.out.mono ?_
      rintro e w1 ⟨A1, c1, A2, c2, -, rfl, hy1, hy2, hk1⟩
      have H1 := Lib.hid hy1
      clear hy1 HC
      go_wp2_with fail
      refine (clone_any A1 _ c1 _ w1 B (by omega) (Nat.le_trans hB' hk1.size) H1.out.lies).mono ?_
      rintro e w2 ⟨vb, rfl, hrb, hk2⟩
      obtain ⟨Ab, cb, hvb, -⟩ := Lies.of_row hrb
      subst hvb
      have hr2 := (hr.keep hk1).keep hk2
      have hbod2 := ((hbod.keep hk1).keep hk2)
      have hy3 := hy2.keep hk2 (Nat.le_trans hB' hk1.size)
      have hbel2 : Below g w w2 := (hbel.trans (hk1.mono hg')).trans (hk2.mono (Nat.le_trans hg' hk1.size))
      have hbw2 : base ≤ w2.heap.size := Nat.le_trans hbw' (Nat.le_trans hk1.size hk2.size)
      have hvl : vs.length = yss.length := hbod.1
      clear hr hbod hy2 hbel
      go_wp2_with fail
      refine (take_any g base v vs Ab (hd ys) cb w2 hr2 hbw2 (by omega)).mono ?_
      rintro e w3 ⟨rfl, ⟨v', hr3⟩, ho3⟩
      have hbx2 := hr2.1
      have hrb2 : w2.ownsRow base 5 1 (.slice Ab (hd ys) cb) ((ys.drop 2).take (hd ys)).length (vals .u8 ((ys.drop 2).take (hd ys))) := by
        rw [HL1.out]
        exact ownsRow_le hrb (Nat.le_trans hbw' hk1.size)
      have hbod3 := (hbod2.snoc hrb2).only ho3 (fun u m zs q hu hq => bytes_far hbx2 hu q hq base)
      have hbel3 : Below g w2 w3 := ho3.below (Nat.le_trans (by omega) hbw2) (fun q hq => by rcases hq with rfl | ⟨hq, _⟩ <;> omega)
      have hy4 := hy3.below (hbel3.mono hBg)
      have hbel4 := hbel2.trans hbel3
      have HSPo := HSP.out
      clear hbod2 hrb2 hrb ho3 hbel2 hbel3 hr2 hbx2 HSP hk1 hk2 hy3
      go_wp2
      go_roundw
      case rel =>
        refine ⟨A2, n' - (2 + hd ys), c2, ys.drop (2 + hd ys), v', vs ++ [.slice Ab (hd ys) cb], yss ++ [(ys.drop 2).take (hd ys)], rfl, hy4, hby'.drop _, by omega, hr3, hbod3, Lib.hid ⟨?_, ?_⟩, by simp; omega, hbel4⟩
        · rw [hsp.out.1, HSPo]
          simp
        · rw [hsp.out.2, HSPo]
      case measure => simp; omega
    · have HC0 := cut_no A' n' c' ys wr B hB' hy' hby' (by omega) (by rw [hc]; decide)
      rw [hc] at HC0
      have HC := Lib.hid HC0
      have HSP := Lib.hid (spl_short hc)
      clear HC0 hc
      go_wp2_with (go_at_call 20; refine HC.out.mono ?_; rintro e w1 ⟨rfl, hk1⟩)
      have h1 : (spl xs).1 = yss := by rw [hsp.out.1, HSP.out]; simp
      have h2 : (spl xs).2 = (ys, 0) := by rw [hsp.out.2, HSP.out]
      refine bodyPost_ret (v := .tuple #[.slice A' n' c', .int .i64 0]) (by simp [results, Try.results22, go_sem]) rfl ⟨A', n', c', v, vs, by rw [h2], by rw [h2]; exact hy'.keep hk1 hB', hr.keep hk1, by rw [h1]; exact hbod.keep hk1, hbel.trans (hk1.mono hg')⟩
    · have HC0 := cut_no A' n' c' ys wr B hB' hy' hby' (by omega) (by rw [hc]; decide)
      rw [hc] at HC0
      have HC := Lib.hid HC0
      have HSP := Lib.hid (spl_long hc)
      clear HC0 hc
      go_wp2_with (go_at_call 20; refine HC.out.mono ?_; rintro e w1 ⟨rfl, hk1⟩)
      have h1 : (spl xs).1 = yss := by rw [hsp.out.1, HSP.out]; simp
      have h2 : (spl xs).2 = (ys, 2) := by rw [hsp.out.2, HSP.out]
      refine bodyPost_ret (v := .tuple #[.slice A' n' c', .int .i64 2]) (by simp [results, Try.results22, go_sem]) rfl ⟨A', n', c', v, vs, by rw [h2], by rw [h2]; exact hy'.keep hk1 hB', hr.keep hk1, by rw [h1]; exact hbod.keep hk1, hbel.trans (hk1.mono hg')⟩

/-- What Split answers: the bodies and what is left, in memory of their own. -/
def Splitted (w : World) (xs : List Int) (e : Ending) (w' : World) : Prop :=
  ∃ vb vl vs, e = .returned (.tuple #[vb, vl, .int .i64 (spl xs).2.2]) ∧ w'.ownsRow w.heap.size 22 1 vb vs.length vs ∧ Bod w' w.heap.size vs (spl xs).1 ∧ w'.ownsRow w.heap.size 5 1 vl (spl xs).2.1.length (vals .u8 (spl xs).2.1) ∧ Keep w w'

set_option maxRecDepth 100000 in
set_option maxHeartbeats 2000000 in
theorem split_any (A : Option Addr) (n c : Nat) (xs : List Int) (w : World) (B : Nat) (hB : B ≤ w.heap.size) (hy : By w B A n c xs) (hby : Byt xs) (hn : n ≤ 100000) :
    Calls Try.prog 12 #[.slice A n c] w (Splitted w xs) := by
  have hy1 : By (w.alloc (.cells #[.slice none 0 0] 29)) B A n c xs := hy.keep ((Keep.refl w).alloc _) hB
  have h0 : Rws (w.alloc (.cells #[.slice none 0 0] 29)) w.heap.size (w.heap.size + 1) (.slice none 0 0) [] := ⟨Boxed.new w 29 _, World.ownsRow_nil _ _ _ _⟩
  have HW := Lib.hid (walk_any A n c xs _ B w.heap.size (w.heap.size + 1) hy1 hby hn hB (by omega) (by simp) h0)
  have hlx := hy.len
  have hcnt := (spl_count n xs (by omega)).2
  have HC := Lib.hid hcnt
  clear hy1 h0 hy hby hcnt
  go_enter Try.func12, Try.ntmps12
  go_wp2_with fail
  refine HW.out.mono ?_
  rintro e w1 ⟨A1, n1, c1, v, vs, rfl, hy1, hr, hbod, hbel⟩
  have hl1 := hy1.len
  have hk1 : Keep w w1 := Below.trans ((Keep.refl w).alloc (.cells #[.slice none 0 0] 29)) hbel
  have hB1 : B ≤ w1.heap.size := Nat.le_trans hB hk1.size
  have hcc := HC.out
  obtain ⟨Av, cv, rfl, -⟩ := Lies.of_row hr.2
  have hcell := hr.1.cell
  have HY1 := Lib.hid hy1
  have HR := Lib.hid hr
  have hrl := hr.1.lt
  clear hbel HW hr hy1
  go_wp2_with fail
  go_region_held3 (fun w' => w'.cell? ⟨w.heap.size, 0, none⟩ = some (.slice Av vs.length cv)) (first | exact hcell | exact (HR.out.keep ((Keep.refl _).drew.trans hk2)).1.cell)
    (first
      | (go_at_call 21; refine (clone_any A1 n1 c1 (spl xs).2.1 w1.drew B (by omega) hB1 (HY1.out.keep (Keep.refl _).drew hB1).lies).mono ?_; rintro e w2 ⟨vl, rfl, hrl2, hk2⟩))
  have hk3 := hk1.drew.trans hk2
  go_wp2
  refine bodyPost_ret (v := .tuple #[.slice Av vs.length cv, vl, .int .i64 (spl xs).2.2]) (by simp [results, Try.results12, go_sem]) rfl ⟨_, vl, vs, rfl, ?_, ?_, ?_, hk3⟩
  · exact ownsRow_le (row_keep HR.out.2 ((Keep.refl _).drew.trans hk2)) (by omega)
  · exact (hbod.keep ((Keep.refl _).drew.trans hk2)).le (by omega)
  · rw [hl1]
    exact ownsRow_le hrl2 (show w.heap.size ≤ w1.heap.size from hk1.size)
end Go.Proofs.Ytjhakgnjodocpaa
