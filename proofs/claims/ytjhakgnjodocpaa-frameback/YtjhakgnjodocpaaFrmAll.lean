/- frame.All, and the law's own all: how many bodies come, one by one. -/
import Derived.Test.YtjhakgnjodocpaaFrmSplit
import Derived.RangeFuncNested
import Derived.RangeFuncBound
import Derived.RangeFuncCalls
import Derived.RangeFuncLeaves
import Derived.RangeFuncBox
import Derived.Shelf.Abstract
import Derived.Shelf.RegionOpen
import Derived.OwnWalkIn
import Derived.TacticsInMore
import Derived.LoopNIn
import Derived.LoopIn
import Derived.Maps.AppendAt
namespace Go.Proofs.Ytjhakgnjodocpaa
open Go.RowKit Go.Shelf
attribute [local go_sem] Oper.semAt_some

/-- A slice that is handed on. -/
abbrev SV := Option Addr × Nat × Nat
def sv (x : SV) : Value := .slice x.1 x.2.1 x.2.2

theorem keep_grown {W W' : World} (h : Keep W W') : W.grownBy W' none := ⟨h.os, h.tape, h.output, h.size, fun k hk _ => h.block k hk⟩

set_option maxRecDepth 100000 in
set_option maxHeartbeats 2000000 in
theorem walk_in (n : Nat) (hn : 1 ≤ n) (l : Nat) (Pr : Nat → Prop) (A : Option Addr) (m c : Nat) (xs : List Int) (B : Nat) (hPA : ∀ ad, A = some ad → Pr ad.block) (hm : m ≤ 100000) (J Jx : List SV → World → Prop) (hJ : ∀ s W W', J s W → Keep W W' → J s W')
    (hY : ∀ pre (x : SV) W, J pre W → pre.length < (spl xs).1.length → YieldAt Fence.wide (n - 1) Try.prog l #[.slice x.1 x.2.1 x.2.2] W fun e W' =>
      (e = .returned (.bool true) ∧ J (pre ++ [x]) W' ∧ Only (fun q => ¬ Pr q) W W') ∨ (e = .returned (.bool false) ∧ Jx (pre ++ [x]) W'))
    (W : World) (hBW : B ≤ W.heap.size) (hy : By W B A m c xs) (hby : Byt xs) (h0 : J [] W) :
    CallsIn Fence.wide n Try.prog 22 #[.slice A m c, .func (.yield l) #[] #[]] W fun e W' => (∃ v, e = .returned v) ∧
      ((∃ ys : List SV, ys.length = (spl xs).1.length ∧ J ys W') ∨ (∃ pre : List SV, pre.length ≤ (spl xs).1.length ∧ Jx pre W')) := by
  refine callsIn_of_wp Try.func22 rfl trivial ?_ rfl
  simp only [Try.ntmps22, List.size_toArray, List.length_cons, List.length_nil, Nat.reduceAdd, Nat.reduceSub, Array.replicate_succ, Array.replicate_zero, List.push_toArray, List.append_toArray, List.nil_append, List.cons_append]
  gi_wp2
  gi_loopw [0] (fun s wr => ∃ A' n' c' ys pre, s = .slice A' n' c' ∧ By wr B A' n' c' ys ∧ Byt ys ∧ n' ≤ m ∧ Hid ((spl xs).1.length = List.length (α := SV) pre + (spl ys).1.length) ∧ J pre wr ∧ B ≤ wr.heap.size ∧ ∀ ad, A' = some ad → Pr ad.block) (fun s _ => match s with | .slice _ q _ => q | _ => 0)
  case atStart => exact ⟨A, m, c, xs, [], rfl, hy, hby, Nat.le_refl _, Lib.hid (by simp), h0, hBW, hPA⟩
  case round =>
    obtain ⟨A', n', c', ys, pre, rfl, hy', hby', hn', hsp, hJp, hB', hPp⟩ := hrel
    have HP := Lib.hid hPp
    clear hPp
    rcases cutE_three ys with hc | hc | hc
    · obtain ⟨HC0, h1, h2⟩ := cut_yes A' n' c' ys wr B hB' hy' hby' (by omega) hc
      have HSP := Lib.hid (spl_yes hc)
      unfold CutOk at HC0
      have HC := Lib.hid HC0
      clear HC0 hc
      gi_wp2_with (refine ⟨trivial, ?_⟩; gi_at_call 20; refine (callsIn_wide.2 HC.out).mono ?_; rintro e w1 ⟨A1, c1, A2, c2, hab, rfl, hy1, hy2, hk1⟩)
      have H1 := Lib.hid hy1
      clear hy1 HC
      refine ⟨trivial, (callsIn_wide.2 (clone_any A1 _ c1 _ w1 B (by omega) (Nat.le_trans hB' hk1.size) H1.out.lies)).mono ?_⟩
      rintro e w2 ⟨vb, rfl, hrb, hk2⟩
      obtain ⟨Ab, cb, hvb, -⟩ := Lies.of_row hrb
      subst hvb
      have hJ2 := hJ _ _ _ (hJ _ _ _ hJp hk1) hk2
      have hy3 := hy2.keep hk2 (Nat.le_trans hB' hk1.size)
      have hnw2 : B ≤ w2.heap.size := Nat.le_trans hB' (Nat.le_trans hk1.size hk2.size)
      have HP2 := Lib.hid (show ∀ ad, A2 = some ad → Pr ad.block from fun ad h => by
        subst h
        rcases A' with _ | a0
        · cases hab
        · have := HP.out a0 rfl
          simp at hab
          rw [hab]
          exact this)
      clear hab
      have hlt : pre.length < (spl xs).1.length := by rw [hsp.out, HSP.out]; simp
      obtain ⟨fn, tmps, assign, body, hyq, hR⟩ := hY pre (Ab, hd ys, cb) w2 hJ2 hlt
      clear hJp hk1 hk2 hrb hy2 hlt
      gi_wp2
      refine hR.mono ?_
      rintro e w3 (⟨rfl, hJ3, hk3⟩ | ⟨rfl, hJx3⟩)
      · have hy4 : By w3 B A2 (n' - (2 + hd ys)) c2 (ys.drop (2 + hd ys)) := ⟨hy3.lies.only hk3 hnw2 (fun b off h hn => hn (HP2.out _ h)), hy3.cap, hy3.nil⟩
        have hs3 := hk3.size
        gi_wp2
        go_roundw
        case rel => exact ⟨A2, n' - (2 + hd ys), c2, ys.drop (2 + hd ys), pre ++ [(Ab, hd ys, cb)], rfl, hy4, hby'.drop _, by omega, Lib.hid (by rw [hsp.out, HSP.out]; simp; omega), hJ3, by omega, HP2.out⟩
        case measure => simp; omega
      · have hle : (pre ++ [((Ab, hd ys, cb) : SV)]).length ≤ (spl xs).1.length := by rw [hsp.out, HSP.out]; simp
        gi_wp2
        refine bodyPost_ret (v := .tuple #[.slice A2 (n' - (2 + hd ys)) c2, .int .i64 0]) (by simp [results, Try.results22, go_sem]) rfl ⟨⟨_, rfl⟩, .inr ⟨_, hle, hJx3⟩⟩
    · have HC0 := cut_no A' n' c' ys wr B hB' hy' hby' (by omega) (by rw [hc]; decide)
      rw [hc] at HC0
      have HC := Lib.hid HC0
      have HSP := Lib.hid (spl_short hc)
      clear HC0 hc
      gi_wp2_with (refine ⟨trivial, ?_⟩; gi_at_call 20; refine (callsIn_wide.2 HC.out).mono ?_; rintro e w1 ⟨rfl, hk1⟩)
      refine bodyPost_ret (v := .tuple #[.slice A' n' c', .int .i64 0]) (by simp [results, Try.results22, go_sem]) rfl ⟨⟨_, rfl⟩, .inl ⟨pre, by rw [hsp.out, HSP.out]; simp, hJ _ _ _ hJp hk1⟩⟩
    · have HC0 := cut_no A' n' c' ys wr B hB' hy' hby' (by omega) (by rw [hc]; decide)
      rw [hc] at HC0
      have HC := Lib.hid HC0
      have HSP := Lib.hid (spl_long hc)
      clear HC0 hc
      gi_wp2_with (refine ⟨trivial, ?_⟩; gi_at_call 20; refine (callsIn_wide.2 HC.out).mono ?_; rintro e w1 ⟨rfl, hk1⟩)
      refine bodyPost_ret (v := .tuple #[.slice A' n' c', .int .i64 2]) (by simp [results, Try.results22, go_sem]) rfl ⟨⟨_, rfl⟩, .inl ⟨pre, by rw [hsp.out, HSP.out]; simp, hJ _ _ _ hJp hk1⟩⟩

theorem yield_any {m m' : Nat} {P : Program} {l : Nat} {args : Array Value} {W : World} {R : Ending → World → Prop} (h : YieldAt Fence.wide m P l args W R) : YieldAt Fence.wide m' P l args W R := by
  obtain ⟨fn, t, a, b, h1, h2⟩ := h
  exact ⟨fn, t, a, b, h1, h2.1, fun c cs _ => h2.2 c cs (room_wide _)⟩

set_option maxHeartbeats 1000000 in
/-- What All answers goes through the bodies; or through some of them, where a round has said no more. -/
theorem all1_in (n : Nat) (hn : 1 ≤ n) (l : Nat) (Pr : Nat → Prop) (Bx : Nat) (A : Option Addr) (m c : Nat) (xs : List Int) (B : Nat) (hPA : ∀ ad, A = some ad → Pr ad.block) (hm : m ≤ 100000) (J Jx : List SV → World → Prop) (hJ : ∀ s W W', J s W → Keep W W' → J s W')
    (hY : ∀ pre (x : SV) W, J pre W → pre.length < (spl xs).1.length → YieldAt Fence.wide (n - 1) Try.prog l #[.slice x.1 x.2.1 x.2.2] W fun e W' =>
      (e = .returned (.bool true) ∧ J (pre ++ [x]) W' ∧ Only (fun q => ¬ Pr q) W W') ∨ (e = .returned (.bool false) ∧ Jx (pre ++ [x]) W'))
    (W : World) (hBW : B ≤ W.heap.size) (hbx : Boxed W Bx 22 (.slice A m c)) (hy : By W B A m c xs) (hby : Byt xs) (h0 : J [] W) :
    CallsIn Fence.wide n Try.prog 32 #[.func (.yield l) #[] #[], .pointer (some ⟨Bx, 0, none⟩)] W fun e W' => (∃ v, e = .returned v) ∧
      ((∃ ys : List SV, ys.length = (spl xs).1.length ∧ J ys W') ∨ (∃ pre : List SV, pre.length ≤ (spl xs).1.length ∧ Jx pre W')) := by
  have hc := hbx.cell
  have HW := Lib.hid (callsIn_wide.1 (walk_in (n - 1 + 1) (by omega) l Pr A m c xs B hPA hm J Jx hJ (fun pre x W h1 h2 => yield_any (hY pre x W h1 h2)) W hBW hy hby h0))
  clear hY hy hby h0
  refine callsIn_of_wp Try.func32 rfl trivial ?_ rfl
  simp only [Try.ntmps32, List.size_toArray, List.length_cons, List.length_nil, Nat.reduceAdd, Nat.reduceSub, Array.replicate_succ, Array.replicate_zero, List.push_toArray, List.append_toArray, List.nil_append, List.cons_append]
  gi_wp2_with (refine ⟨trivial, ?_⟩; gi_at_call 22; refine (callsIn_wide.2 HW.out).mono ?_; rintro e w1 ⟨⟨v, rfl⟩, h1⟩)
  go_end0
  exact ⟨⟨_, rfl⟩, h1⟩

theorem all_stops (n : Nat) (hn : 1 ≤ n) (Pr : Nat → Prop) (Bx : Nat) (A : Option Addr) (m c : Nat) (xs : List Int) (B : Nat) (hPA : ∀ ad, A = some ad → Pr ad.block) (hm : m ≤ 100000) (w : World) (hB : B ≤ w.heap.size) (hbx : Boxed w Bx 22 (.slice A m c)) (hy : By w B A m c xs) (hby : Byt xs) :
    SeqStopsK Fence.wide n Try.prog 32 #[.pointer (some ⟨Bx, 0, none⟩)] (fun x : SV => #[Value.slice x.1 x.2.1 x.2.2]) (Only (fun q => ¬ Pr q)) (fun ys => ys.length = (spl xs).1.length) (fun pre => pre.length ≤ (spl xs).1.length) (spl xs).1.length w := fun l J Jx W hW hJ _ hY h0 =>
  all1_in n hn l Pr Bx A m c xs B hPA hm J Jx (fun s W W' h hk => hJ s W W' none h (keep_grown hk) (fun r e => by cases e)) hY W (Nat.le_trans hB hW.size)
    ((hW.block Bx hbx.lt).trans hbx) (hy.keep hW hB) hby h0

set_option maxHeartbeats 1000000 in
/-- frame.All: a copy in a box; what it answers holds the box. -/
theorem all_in (A : Option Addr) (m c : Nat) (xs : List Int) (w : World) (B : Nat) (hB : B ≤ w.heap.size) (hy : By w B A m c xs) (hm : m ≤ 100000) :
    Calls Try.prog 24 #[.slice A m c] w fun e w' => ∃ b A' c', e = .returned (.func (.func 32) #[] #[.pointer (some ⟨b, 0, none⟩)]) ∧ Boxed w' b 22 (.slice A' m c') ∧ By w' b A' m c' xs ∧ b < w'.heap.size ∧ (∀ ad, A' = some ad → ∃ cs fr, w'.heap[ad.block]? = some (.cells cs 5 fr)) ∧ Keep w w' := by
  have HC := Lib.hid (clone_any A m c xs w B (by omega) hB hy.lies)
  clear hy
  go_enter Try.func24, Try.ntmps24
  go_wp2_with fail
  refine HC.out.mono ?_
  rintro e w1 ⟨v, rfl, hr, hk1⟩
  obtain ⟨A1, c1, rfl, hy1⟩ := By.of_row hr
  go_wp2
  go_ret
  exact ⟨_, A1, c1, rfl, Boxed.new w1 22 _, hy1.below ((Below.refl _ _).alloc (Nat.le_refl _) _), by simp, fun ad h => by
    subst h
    obtain ⟨cs, hc⟩ := row_type hr ad.block rfl
    exact ⟨cs, _, (((Keep.refl w1).alloc _).block ad.block (Array.getElem?_eq_some_iff.1 hc).1).trans hc⟩, hk1.alloc _⟩
end Go.Proofs.Ytjhakgnjodocpaa
