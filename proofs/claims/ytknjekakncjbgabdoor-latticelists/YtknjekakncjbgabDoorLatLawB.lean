/- LatticeClosed: what is closed is closed; below a meet is what is below both. -/
import Derived.Test.YtknjekakncjbgabDoorLatLawA
namespace Go.Proofs.YtknjekakncjbgabDoor
open Go.RowKit

theorem below_is (p : Nat) (ls : List Lb) (x : Lb) (v : Nat) (w : World) (h : Lat w p ls) (hx : x.ok) (hv : blw ls x = v) :
    Calls Tryd.prog 18 #[.pointer (some ⟨p, 0, none⟩), .agg #[.int .u8 x.lv, .int .u16 x.ct]] w fun e w' => e = .returned (.int .u32 v) ∧ Keep w w' := hv ▸ below_any p ls x w h hx
theorem blw_bd {ls : List Lb} (h : ls.length ≤ 16) (x : Lb) : blw ls x < 4294967296 := Nat.lt_of_lt_of_le (blw_lt ls x) (Nat.le_trans (pow_bd h) (by decide))
theorem low_lt (m n : Nat) : m &&& (2 ^ n - 1) < 2 ^ n := Nat.and_lt_two_pow _ (by have := Nat.two_pow_pos n; omega)

set_option maxRecDepth 100000 in
set_option maxHeartbeats 4000000 in
theorem closed_law (a : Option Addr) (len cap : Nat) (ls : List Lb) (x y : Lb) (m : Nat) (w : World) (row : LbArg w a len ls) (hx : x.ok) (hy : y.ok) (hm : m < 4294967296) (hT : Tab w) :
    Calls Tryd.prog 4 #[.slice a len cap, .agg #[.int .u8 x.lv, .int .u16 x.ct], .agg #[.int .u8 y.lv, .int .u16 y.ct], .int .u32 m] w fun e w' => e = .returned (.bool true) ∧ Keep w w' := by
  obtain ⟨hml, hP, hok⟩ := row
  unfold maxLen at hml
  have k0 := ((Keep.refl w).alloc (.cells #[.int .u8 x.lv, .int .u16 x.ct] 25)).alloc (.cells #[.int .u8 y.lv, .int .u16 y.ct] 25)
  have HT := Lib.hid (hT.keep k0)
  have HP := Lib.hid (hP.up k0)
  have HAX := (LbAt.new w x).keep ((Keep.refl _).alloc (.cells #[.int .u8 y.lv, .int .u16 y.ct] 25))
  have HAY := LbAt.new (w.alloc (.cells #[.int .u8 x.lv, .int .u16 x.ct] 25)) y
  rw [World.size_alloc] at HAY
  have HOK := Lib.hid hok
  have hll := hP.len
  clear hT hP hok
  by_cases h16 : 16 < len
  · go_enter Tryd.func4, Tryd.ntmps4
    go_wp2_with (go_at_call 8; refine (alive_any _ HT.out).mono ?_; rintro e w1 ⟨rfl, hk1⟩)
    go_ret
    exact ⟨rfl, k0.trans hk1⟩
  · by_cases hE : newE ls = 0
    · have hl16 : ls.length ≤ 64 := by omega
      have hn16 : ls.length ≤ 16 := by omega
      obtain ⟨n, hn⟩ : ∃ n, n = len := ⟨_, rfl⟩
      subst hn
      have hnn : (n : Int) ≤ 16 := by omega
      have hsh := wrap_one (j := n) (by omega)
      have hp2 := pow_bd (n := n) (by omega)
      have hp0 := Nat.two_pow_pos n
      have e2 : (2 : Int) ^ n = ((2 ^ n : Nat) : Int) := by simp
      obtain ⟨M, hM⟩ : ∃ M, M = m &&& (2 ^ n - 1) := ⟨_, rfl⟩
      have hMl : M < 2 ^ ls.length := by rw [hM, hll]; exact low_lt m n
      have hMb : M < 4294967296 := by rw [hll] at hMl; omega
      have hsub : IntKind.u32.wrap ((2 : Int) ^ n - 1) = 2 ^ n - 1 := by
        rw [e2, IntKind.wrap_u32]
        generalize (2 ^ n : Nat) = q at *
        omega
      have hand : bits BinOp.and IntKind.u32 (m : Int) ((2 : Int) ^ n - 1) = (M : Int) := by
        rw [e2, show ((2 ^ n : Nat) : Int) - 1 = ((2 ^ n - 1 : Nat) : Int) from by omega, u32_and m _ hm (by omega), hM]
      have b1 := clo_bd (ls := ls) hn16 M
      have bx := blw_bd (ls := ls) hn16 x
      have bY := blw_bd (ls := ls) hn16 y
      have f1 : clo ls (clo ls M) = clo ls M := clo_clo M hl16 HOK.out
      have f2 : bits BinOp.and IntKind.u32 (clo ls M : Int) (M : Int) = (M : Int) := by rw [u32_and _ _ b1 hMb, clo_has hl16 HOK.out hMl]
      have f3 := u32_or (blw ls x) (blw ls y) bx bY
      have f4 := u32_and (blw ls x) (blw ls y) bx bY
      have f5 : bits BinOp.and IntKind.u32 (blw ls (jn x y) : Int) ((blw ls x ||| blw ls y : Nat) : Int) = ((blw ls x ||| blw ls y : Nat) : Int) := by rw [u32_and _ _ (blw_bd hn16 _) (or_bd bx bY), blw_jn]
      have g1 : decide (clo ls (clo ls M) = clo ls M) = true := by simpa using f1
      have g2 : decide (clo ls (blw ls x) = blw ls x) = true := by simpa using clo_blw x hl16 HOK.out
      have g3 : decide (clo ls (blw ls x ||| blw ls y) = blw ls x ||| blw ls y) = true := by simpa using clo_blw_or x y hl16 HOK.out
      have g4 : decide (clo ls (blw ls x &&& blw ls y) = blw ls x &&& blw ls y) = true := by simpa using clo_blw_and x y hl16 HOK.out
      have F := Lib.hid (And.intro f1 (And.intro g1 (And.intro g2 (And.intro g3 g4))))
      have FM := Lib.hid (blw_mt (ls := ls) hx hy HOK.out)
      have bo := or_bd bx bY
      have ba : blw ls x &&& blw ls y < 4294967296 := Nat.lt_of_le_of_lt Nat.and_le_left bx
      have HX := Lib.hid HAX
      have HY := Lib.hid HAY
      clear f1 g1 g2 g3 g4 hll hM hMl e2 hp2 HAX HAY hml
      go_enter Tryd.func4, Tryd.ntmps4
      go_wp2_with (first
        | (go_at_call 8; refine (alive_any _ HT.out).mono ?_; rintro e w1 ⟨rfl, hk1⟩)
        | (go_at_call 9; refine (new_yes _ _ _ ls _ (HP.out.up hk1) HOK.out (by omega) hE).mono ?_; rintro e w2 ⟨p, rfl, hk2, -, hL⟩))
      have HL := Lib.hid hL
      have hK := hk1.trans hk2
      clear hL hk1 hk2
      go_wp2_with (first
        | (go_at_call 19; refine (close_any p ls M _ HL.out hMb (HT.out.keep hK)).mono ?_; rintro e w3 ⟨rfl, hk3⟩))
      have HL3 := Lib.hid (HL.out.keep hk3)
      have hK3 := hK.trans hk3
      clear hk3 HL hK
      obtain ⟨d0, d1⟩ := (HX.out.keep hK3).cells
      obtain ⟨d2, d3⟩ := (HY.out.keep hK3).cells
      clear d0 d1 d2 d3
      have HS := Lib.hid (show ∀ w', Keep w3 w' → Keep w3 w' ∧ ((w'.cell? ⟨w.heap.size, 0, none⟩ = some (.int .u8 x.lv) ∧ w'.cell? ⟨w.heap.size, 1, none⟩ = some (.int .u16 x.ct)) ∧ (w'.cell? ⟨w.heap.size + 1, 0, none⟩ = some (.int .u8 y.lv) ∧ w'.cell? ⟨w.heap.size + 1, 1, none⟩ = some (.int .u16 y.ct))) from
        fun w' h => ⟨h, (HX.out.keep (hK3.trans h)).cells, (HY.out.keep (hK3.trans h)).cells⟩)
      have hKc := (Keep.refl w3).drew
      refine seq_region (S := fun w' => Keep w3 w' ∧ ((w'.cell? ⟨w.heap.size, 0, none⟩ = some (.int .u8 x.lv) ∧ w'.cell? ⟨w.heap.size, 1, none⟩ = some (.int .u16 x.ct)) ∧ (w'.cell? ⟨w.heap.size + 1, 0, none⟩ = some (.int .u8 y.lv) ∧ w'.cell? ⟨w.heap.size + 1, 1, none⟩ = some (.int .u16 y.ct)))) [⟨0, 512, 137438953472⟩, ⟨0, 32, 274877906944⟩, ⟨3, 412316860416, 549755813888⟩, ⟨0, 512, 1099511627776⟩, ⟨0, 64, 2199023255552⟩, ⟨28, 3298534883328, 4398046511104⟩, ⟨39, 549755813888, 4096⟩, ⟨127, 4398046511104, 8192⟩] [(0, false), (1, false), (3, false), (4, false), (2, true), (5, true), (6, false), (7, false)] rfl (by kernel_rfl) (by kernel_rfl) (fun _ _ d _ _ h => by cases d <;> exact h) (HS.out _ hKc) ?_
      simp only [rowsOf, rowAt, gslot, List.map_cons, List.map_nil, List.getElem?_toArray, List.getElem?_cons_zero, List.getElem?_cons_succ]
      repeat (first
        | (refine seq_take (v := ?_) (a' := ?_) (by rfl) ?_ ?_ ?_
           rotate_left 2
           · (intro w hSw; obtain ⟨-, hSw⟩ := hSw; go_split_ands; go_simp; with_reducible rfl)
           · (simp only [Act.put, List.setIfInBounds_toArray, List.set_cons_zero, List.set_cons_succ]; with_reducible rfl))
        | (refine seq_callv (f := 18) (args := ?_) (v := ?_) (a' := ?_) (by rfl) (by rfl) (by rfl) Tryd.call18 ?_ ?_ ?_ ?_
           rotate_left 3
           · (go_simp; with_reducible rfl)
           · ((first
               | (with_reducible refine (below_any p ls x _ (HL3.out.keep hKc) hx).mono ?_)
               | (with_reducible refine (below_any p ls y _ (HL3.out.keep hKc) hy).mono ?_))
              rintro e w' ⟨rfl, hk⟩
              refine ⟨?_, HS.out _ (hKc.trans hk)⟩
              with_reducible rfl)
           · (simp only [Act.put, List.setIfInBounds_toArray, List.set_cons_zero, List.set_cons_succ]; with_reducible rfl)
           clear hKc
           intro w2 hw2
           have hKc := hw2.1
           clear hw2)
        | (refine seq_skip (a' := ?_) (HS.out _ hKc) (by rfl) ?_ ?_
           rotate_left
           · (simp only [Act.put, List.setIfInBounds_toArray, List.set_cons_zero, List.set_cons_succ]; with_reducible rfl)))
      refine seq_nil ?_
      go_wp2_with fail
      go_at_call 20
      refine (closed_is p ls (clo ls M) true _ (HL3.out.keep hKc) b1 (HT.out.keep (hK3.trans hKc)) F.out.2.1).mono ?_
      rintro e v0 ⟨rfl, hk⟩
      replace hKc := hKc.trans hk
      clear hk
      go_wp2_with fail
      go_at_call 19
      refine (close_is p ls (clo ls M) (clo ls M) _ (HL3.out.keep hKc) b1 (HT.out.keep (hK3.trans hKc)) F.out.1).mono ?_
      rintro e v1 ⟨rfl, hk⟩
      replace hKc := hKc.trans hk
      clear hk
      go_wp2_with fail
      go_at_call 20
      refine (closed_is p ls (blw ls x) true _ (HL3.out.keep hKc) bx (HT.out.keep (hK3.trans hKc)) F.out.2.2.1).mono ?_
      rintro e v2 ⟨rfl, hk⟩
      replace hKc := hKc.trans hk
      clear hk
      go_wp2_with fail
      go_at_call 20
      refine (closed_is p ls (blw ls x ||| blw ls y) true _ (HL3.out.keep hKc) bo (HT.out.keep (hK3.trans hKc)) F.out.2.2.2.1).mono ?_
      rintro e v3 ⟨rfl, hk⟩
      replace hKc := hKc.trans hk
      clear hk
      go_wp2_with fail
      go_at_call 20
      refine (closed_is p ls (blw ls x &&& blw ls y) true _ (HL3.out.keep hKc) ba (HT.out.keep (hK3.trans hKc)) F.out.2.2.2.2).mono ?_
      rintro e v4 ⟨rfl, hk⟩
      replace hKc := hKc.trans hk
      clear hk
      obtain ⟨d0, d1⟩ := (HX.out.keep (hK3.trans hKc)).cells
      obtain ⟨d2, d3⟩ := (HY.out.keep (hK3.trans hKc)).cells
      go_wp2_with fail
      go_at_call 21
      refine (meet_any x y _ hx hy).mono ?_
      rintro e v5 ⟨rfl, hk⟩
      replace hKc := hKc.trans hk
      clear hk
      clear d0 d1 d2 d3
      go_wp2_with fail
      go_at_call 18
      refine (below_is p ls (mt x y) _ _ (HL3.out.keep hKc) (mt_ok hx hy) FM.out).mono ?_
      rintro e v6 ⟨rfl, hk⟩
      replace hKc := hKc.trans hk
      clear hk
      obtain ⟨d0, d1⟩ := (HX.out.keep (hK3.trans hKc)).cells
      obtain ⟨d2, d3⟩ := (HY.out.keep (hK3.trans hKc)).cells
      go_wp2_with fail
      go_at_call 22
      refine (join_any x y _ hx hy).mono ?_
      rintro e v7 ⟨rfl, hk⟩
      replace hKc := hKc.trans hk
      clear hk
      clear d0 d1 d2 d3
      go_wp2_with fail
      go_at_call 18
      refine (below_any p ls (jn x y) _ (HL3.out.keep hKc) (jn_ok hx hy)).mono ?_
      rintro e v8 ⟨rfl, hk⟩
      replace hKc := hKc.trans hk
      clear hk
      go_wp2
      go_ret
      exact ⟨rfl, k0.trans (hK3.trans hKc)⟩
    · go_enter Tryd.func4, Tryd.ntmps4
      go_wp2_with (first
        | (go_at_call 8; refine (alive_any _ HT.out).mono ?_; rintro e w1 ⟨rfl, hk1⟩)
        | (go_at_call 9; refine (new_no _ _ _ ls _ _ (HP.out.up hk1) HOK.out (by omega) rfl hE).mono ?_; rintro e w2 ⟨rfl, hk2⟩))
      go_ret
      exact ⟨rfl, (k0.trans hk1).trans hk2⟩

theorem LatticeClosed_std (a : Option Addr) (len cap : Nat) (ls : List Lb) (x y : Lb) (m : Int) (wm : (Lit.int .u32 m).wf = true) (w : World) (row : LbArg w a len ls) (hx : x.ok) (hy : y.ok) (hT : Tab w) :
    Calls Tryd.prog 4 #[.slice a len cap, .agg #[.int .u8 x.lv, .int .u16 x.ct], .agg #[.int .u8 y.lv, .int .u16 y.ct], .int .u32 m] w fun e w' => e = .returned (.bool true) ∧ Below w.heap.size w w' := by
  obtain ⟨n, rfl, hn⟩ := u32_nat wm
  exact closed_law a len cap ls x y n w row hx hy hn hT
end Go.Proofs.YtknjekakncjbgabDoor
