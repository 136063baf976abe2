/- LatticeUnions: closing goes over unions. -/
import Derived.Test.YtknjekakncjbgabDoorLatArg
import Derived.Test.YtknjekakncjbgabDoorLatMath
namespace Go.Proofs.YtknjekakncjbgabDoor
open Go.RowKit

theorem Tab.keep {w w' : World} (h : Tab w) (hk : Keep w w') : Tab w' := h.below h.pos hk
theorem close_is (p : Nat) (ls : List Lb) (m v : Nat) (w : World) (h : Lat w p ls) (hm : m < 4294967296) (hT : Tab w) (hv : clo ls m = v) :
    Calls Tryd.prog 19 #[.pointer (some ⟨p, 0, none⟩), .int .u32 m] w fun e w' => e = .returned (.int .u32 v) ∧ Keep w w' := hv ▸ close_any p ls m w h hm hT
theorem closed_is (p : Nat) (ls : List Lb) (m : Nat) (b : Bool) (w : World) (h : Lat w p ls) (hm : m < 4294967296) (hT : Tab w) (hv : decide (clo ls m = m) = b) :
    Calls Tryd.prog 20 #[.pointer (some ⟨p, 0, none⟩), .int .u32 m] w fun e w' => e = .returned (.bool b) ∧ Keep w w' := hv ▸ closed_any p ls m w h hm hT
theorem down_is (p : Nat) (ls : List Lb) (i v : Nat) (w : World) (h : Lat w p ls) (hv : dwn ls i = v) :
    Calls Tryd.prog 17 #[.pointer (some ⟨p, 0, none⟩), .int .i64 i] w fun e w' => e = .returned (.int .u32 v) ∧ Keep w w' := hv ▸ down_nat p ls i w h
theorem u32_nat {x : Int} (h : (Lit.int .u32 x).wf = true) : ∃ n : Nat, x = n ∧ n < 4294967296 := by
  have e1 : IntKind.u32.min = 0 := by decide
  have e2 : IntKind.u32.max = 4294967295 := by decide
  simp [Lit.wf, e1, e2] at h
  exact ⟨x.toNat, by omega, by omega⟩
theorem clo_bd {ls : List Lb} (h : ls.length ≤ 16) (m : Nat) : clo ls m < 4294967296 := Nat.lt_of_lt_of_le (clo_lt ls m) (Nat.le_trans (pow_bd h) (by decide))
theorem or_bd {a b : Nat} (ha : a < 4294967296) (hb : b < 4294967296) : a ||| b < 4294967296 := Nat.or_lt_two_pow (n := 32) ha hb
theorem wrap_one {j : Nat} (h : j ≤ 16) : IntKind.u32.wrap (2 ^ j) = ((2 ^ j : Nat) : Int) := by
  have e : (2 : Int) ^ j = ((2 ^ j : Nat) : Int) := by simp
  have h1 := pow_bd h
  rw [e, IntKind.wrap_u32]
  generalize (2 ^ j : Nat) = q at *
  omega
theorem close_pow (p : Nat) (ls : List Lb) (j v : Nat) (w : World) (h : Lat w p ls) (hm : 2 ^ j < 4294967296) (hT : Tab w) (hv : clo ls (2 ^ j) = v) :
    Calls Tryd.prog 19 #[.pointer (some ⟨p, 0, none⟩), .int .u32 (2 ^ j)] w fun e w' => e = .returned (.int .u32 v) ∧ Keep w w' := by
  have := close_is p ls (2 ^ j) v w h hm hT hv
  rwa [show ((2 ^ j : Nat) : Int) = (2 : Int) ^ j by simp] at this

set_option maxRecDepth 100000 in
set_option maxHeartbeats 4000000 in
theorem unions_any (a : Option Addr) (len cap : Nat) (ls : List Lb) (x y : Nat) (w : World) (row : LbArg w a len ls) (hx : x < 4294967296) (hy : y < 4294967296) (hT : Tab w) :
    Calls Tryd.prog 7 #[.slice a len cap, .int .u32 x, .int .u32 y] w fun e w' => e = .returned (.bool true) ∧ Keep w w' := by
  obtain ⟨hm, hP, hok⟩ := row
  unfold maxLen at hm
  have HT := Lib.hid hT
  clear hT
  by_cases h16 : 16 < len
  · go_enter Tryd.func7, Tryd.ntmps7
    go_wp2_with (go_at_call 8; refine (alive_any _ HT.out).mono ?_; rintro e w1 ⟨rfl, hk1⟩)
    go_ret
    exact ⟨rfl, hk1⟩
  · have HP := Lib.hid hP
    have HOK := Lib.hid hok
    have hll := hP.len
    clear hP hok hm
    by_cases hE : newE ls = 0
    · have hl16 : ls.length ≤ 64 := by omega
      have hn16 : ls.length ≤ 16 := by omega
      obtain ⟨n, hn⟩ : ∃ n, n = len := ⟨_, rfl⟩
      have HN := Lib.hid hll
      subst hn
      have hnn : (n : Int) ≤ 16 := by omega
      have hw := wrap_none (n := n) (by omega)
      obtain ⟨hnp, hnb⟩ := noneM_pos (n := n) (by omega)
      have o1 := u32_or x y hx hy
      have o2 := u32_or (clo ls x) (clo ls y) (clo_bd hn16 x) (clo_bd hn16 y)
      have o3 := u32_or x (noneM n) hx hnb
      have f1 := clo_or (ls := ls) x y hl16
      have fN : clo ls (noneM n) = 0 := clo_none hl16 (fun i hi => noneM_test (by omega) (by omega))
      have f0 : clo ls 0 = 0 := clo_zero hl16
      have f3 : clo ls (x ||| noneM n) = clo ls x := by rw [clo_or _ _ hl16, fN, Nat.or_zero]
      have g0 : decide (clo ls 0 = 0) = true := by rw [f0]; rfl
      have gN : decide (clo ls (noneM n) = noneM n) = false := by rw [fN]; simp; omega
      have F := Lib.hid (And.intro f1 (And.intro fN (And.intro f0 (And.intro f3 (And.intro g0 gN)))))
      have hxy := or_bd hx hy
      have hxn := or_bd hx hnb
      clear f1 fN f0 f3 g0 gN hnp hll
      go_enter Tryd.func7, Tryd.ntmps7
      go_wp2_with (first
        | (go_at_call 8; refine (alive_any _ HT.out).mono ?_; rintro e w1 ⟨rfl, hk1⟩)
        | (go_at_call 9; refine (new_yes _ _ _ ls _ (HP.out.up hk1) HOK.out (by omega) hE).mono ?_; rintro e w2 ⟨p, rfl, hk2, -, hL⟩))
      have HL := Lib.hid hL
      have hK := hk1.trans hk2
      clear hL hk1 hk2
      go_loopw [27] (fun i wr => ∃ (j : Nat), j ≤ n ∧ i = .int .i64 j ∧ Keep w2 wr) (fun i _ => n - (intOf i).toNat)
      case atStart => exact ⟨0, Nat.zero_le _, rfl, Keep.refl _⟩
      case round =>
        obtain ⟨j, hj, rfl, hk⟩ := hrel
        by_cases hlt : j < n
        · have hsh := wrap_one (j := j) (by omega)
          have h2 := pow_bd (n := j) (by omega)
          have hb : 2 ^ j < 4294967296 := by omega
          have hj16 : (j : Int) ≤ 16 := by omega
          have hcl : clo ls (2 ^ j) = dwn ls j := clo_one hl16
          have HC := Lib.hid hcl
          clear hcl
          go_wp2_with (first
            | (go_at_call 19; refine (close_pow p ls j _ _ (HL.out.keep hk) hb (HT.out.keep (hK.trans hk)) HC.out).mono ?_; rintro e w3 ⟨rfl, hk3⟩)
            | (go_at_call 17; refine (down_nat p ls j _ (HL.out.keep (hk.trans hk3))).mono ?_; rintro e w4 ⟨rfl, hk4⟩))
          go_roundw
          case rel => exact ⟨j + 1, hlt, by go_num, (hk.trans hk3).trans hk4⟩
          case measure => simp [intOf]; omega
        · obtain rfl : j = n := by omega
          go_wp2_with fail
          go_at_call 19
          refine (close_is p ls _ _ _ (HL.out.keep hk) hxy (HT.out.keep (hK.trans hk)) F.out.1).mono ?_
          rintro e w3 ⟨rfl, hk3⟩
          replace hk3 := hk.trans hk3
          clear hk
          go_wp2_with fail
          go_at_call 19
          refine (close_any p ls x _ (HL.out.keep hk3) hx (HT.out.keep (hK.trans hk3))).mono ?_
          rintro e w4 ⟨rfl, hk4⟩
          replace hk4 := hk3.trans hk4
          clear hk3
          go_wp2_with fail
          go_at_call 19
          refine (close_any p ls y _ (HL.out.keep hk4) hy (HT.out.keep (hK.trans hk4))).mono ?_
          rintro e w5 ⟨rfl, hk5⟩
          replace hk5 := hk4.trans hk5
          clear hk4
          go_wp2_with fail
          go_at_call 19
          refine (close_is p ls _ _ _ (HL.out.keep hk5) hnb (HT.out.keep (hK.trans hk5)) F.out.2.1).mono ?_
          rintro e w6 ⟨rfl, hk6⟩
          replace hk6 := hk5.trans hk6
          clear hk5
          go_wp2_with fail
          go_at_call 19
          refine (close_is p ls 0 _ _ (HL.out.keep hk6) (by decide) (HT.out.keep (hK.trans hk6)) F.out.2.2.1).mono ?_
          rintro e w7 ⟨rfl, hk7⟩
          replace hk7 := hk6.trans hk7
          clear hk6
          go_wp2_with fail
          go_at_call 20
          refine (closed_is p ls 0 _ _ (HL.out.keep hk7) (by decide) (HT.out.keep (hK.trans hk7)) F.out.2.2.2.2.1).mono ?_
          rintro e w8 ⟨rfl, hk8⟩
          replace hk8 := hk7.trans hk8
          clear hk7
          go_wp2_with fail
          go_at_call 20
          refine (closed_is p ls _ _ _ (HL.out.keep hk8) hnb (HT.out.keep (hK.trans hk8)) F.out.2.2.2.2.2).mono ?_
          rintro e w9 ⟨rfl, hk9⟩
          replace hk9 := hk8.trans hk9
          clear hk8
          go_wp2_with fail
          go_at_call 19
          refine (close_is p ls _ _ _ (HL.out.keep hk9) hxn (HT.out.keep (hK.trans hk9)) F.out.2.2.2.1).mono ?_
          rintro e w10 ⟨rfl, hk10⟩
          replace hk10 := hk9.trans hk10
          clear hk9
          go_wp2_with fail
          go_at_call 19
          refine (close_any p ls x _ (HL.out.keep hk10) hx (HT.out.keep (hK.trans hk10))).mono ?_
          rintro e w11 ⟨rfl, hk11⟩
          replace hk11 := hk10.trans hk11
          clear hk10
          go_wp2
          go_ret
          exact ⟨rfl, hK.trans hk11⟩
    · go_enter Tryd.func7, Tryd.ntmps7
      go_wp2_with (first
        | (go_at_call 8; refine (alive_any _ HT.out).mono ?_; rintro e w1 ⟨rfl, hk1⟩)
        | (go_at_call 9; refine (new_no _ _ _ ls _ _ (HP.out.up hk1) HOK.out (by omega) rfl hE).mono ?_; rintro e w2 ⟨rfl, hk2⟩))
      go_ret
      exact ⟨rfl, hk1.trans hk2⟩

theorem LatticeUnions_std (a : Option Addr) (len cap : Nat) (ls : List Lb) (x : Int) (wx : (Lit.int .u32 x).wf = true) (y : Int) (wy : (Lit.int .u32 y).wf = true) (w : World) (row : LbArg w a len ls) (hT : Tab w) :
    Calls Tryd.prog 7 #[.slice a len cap, .int .u32 x, .int .u32 y] w fun e w' => e = .returned (.bool true) ∧ Below w.heap.size w w' := by
  obtain ⟨n, rfl, hn⟩ := u32_nat wx
  obtain ⟨m, rfl, hm⟩ := u32_nat wy
  exact unions_any a len cap ls n m w row hn hm hT
end Go.Proofs.YtknjekakncjbgabDoor
