/- ArenaPlays: of all limits, and each row of steps, every answer, and all nodes, are as the document says. -/
import Derived.Test.YtdnhgfbchddababArnPS
import Derived.Deep.QuietTactic
import Derived.BigQuiet
namespace Go.Proofs.Ytdnhgfbchddabab
open Go.RowKit

section
variable {W0 w w' : World} {bx lim n : Nat} {xs : List Nd} {A : Option Addr} {c : Nat} {X : Nat → Prop}
theorem ps_len (h : PS W0 bx lim n xs xs A c X w) : Calls Try.prog 16 #[.pointer (some ⟨W0.heap.size, 0, none⟩)] w fun e w' => e = .returned (.int .i64 (n : Int)) ∧ w = w' := by
  have := my_len h.my
  rwa [h.len] at this
theorem ps_room (h : PS W0 bx lim n xs xs A c X w) : Calls Try.prog 17 #[.pointer (some ⟨W0.heap.size, 0, none⟩)] w fun e w' => e = .returned (.int .i64 ((lim : Int) - (n : Int))) ∧ Keep w w' := by
  have := my_room h.my
  rwa [h.len] at this
end
theorem and_7 (m : Int) : bits BinOp.and IntKind.i64 m 7 = (((m % 8).toNat : Nat) : Int) := by
  have e1 : (BitVec.ofInt 64 m &&& BitVec.ofInt 64 7).toNat = (m % 18446744073709551616).toNat % 2 ^ 3 := by
    rw [BitVec.toNat_and, show (BitVec.ofInt 64 7) = BitVec.ofNat 64 7 from rfl, BitVec.toNat_ofNat, BitVec.toNat_ofInt, show 7 % 2 ^ 64 = 2 ^ 3 - 1 from rfl, Nat.and_two_pow_sub_one_eq_mod]
    rfl
  show IntKind.i64.wrap ((BitVec.ofInt 64 m &&& BitVec.ofInt 64 7).toNat : Int) = _
  rw [e1]
  simp only [IntKind.wrap, IntKind.bits, IntKind.signed]
  simp
  omega
set_option maxRecDepth 100000 in
set_option maxHeartbeats 16000000 in
theorem plays_law (a0 : Int) (B : Option Addr) (len cap : Nat) (os : List OpV) (a2 : Int) (w : World) (row : OpArg w B len os) :
    Calls Try.prog 3 #[.int .i64 a0, .slice B len cap, .int .i64 a2] w fun e w' => e = .returned (.bool true) ∧ Keep w w' := by
  obtain ⟨hml, hol, hS⟩ := row
  unfold maxLen at hml
  have HOL := Lib.hid hol
  have HS := Lib.hid hS
  clear hol hS
  have hb2 := and_7 a2
  have hm7 : (a2 % 8).toNat < 8 := by omega
  generalize (a2 % 8).toNat = M at *
  go_enter Try.func3, Try.ntmps3
  go_wp2_with fail
  refine (alive_any w).mono ?_
  rintro e W0 ⟨rfl, hk0⟩
  have HK0 := Lib.hid hk0
  clear hk0
  by_cases h3 : 60 < len
  · go_wp2
    go_ret
    exact ⟨rfl, HK0.out⟩
  have h3' : len ≤ 60 := by omega
  clear h3
  by_cases h1 : a0 < 1
  · go_wp2_with fail
    refine (new_no a0 W0 (.inl h1)).mono ?_
    rintro e W1 ⟨rfl, rfl⟩
    go_wp2
    go_ret
    exact ⟨rfl, HK0.out⟩
  have h1' : 1 ≤ a0 := by omega
  clear h1
  by_cases h2 : 4194304 < a0
  · go_wp2_with fail
    refine (new_no a0 W0 (.inr h2)).mono ?_
    rintro e W1 ⟨rfl, rfl⟩
    go_wp2
    go_ret
    exact ⟨rfl, HK0.out⟩
  have h2' : a0 ≤ 4194304 := by omega
  clear h2
  obtain ⟨lim, rfl⟩ : ∃ lim : Nat, a0 = (lim : Int) := ⟨a0.toNat, by omega⟩
  have htop : lim ≤ 4194304 := by omega
  go_wp2_with fail
  refine (my_new lim W0 (by omega) htop).mono ?_
  rintro e W1 ⟨rfl, hM1⟩
  have HP0 := Lib.hid (show PS W0 W1.heap.size lim 0 [] [] none 0 (fun _ => False) (W1.alloc (.cells #[.slice none 0 0, .int .i64 lim] 30)) from
    ⟨RBox.new W1 none 0 0 lim, ⟨fun i z h => by simp at h, fun _ => ⟨rfl, rfl⟩⟩, rfl, (hM1.keep ((Keep.refl W1).alloc _)).mono (fun j hj => by
      rcases hj with hj | ⟨hj, _⟩ | hj
      · exact .inr (by subst hj; simp)
      · exact absurd rfl hj
      · exact hj.elim), hM1.keepW.size, fun h => absurd rfl h⟩)
  clear hM1
  go_wp2_with fail
  go_loopw [60] (fun ix wr => ∃ k n : Nat, k ≤ len ∧ ix = .int .i64 k ∧ ∃ (xs : List Nd) (A : Option Addr) (c : Nat), Hid (n ≤ k) ∧ Hid (PS W0 W1.heap.size lim n xs xs A c (fun _ => False) wr)) (fun ix _ => len - (intOf ix).toNat)
  case atStart => exact ⟨0, 0, Nat.zero_le _, rfl, [], none, 0, Lib.hid (Nat.le_refl _), HP0⟩
  case round =>
    obtain ⟨k, n, hk, rfl, xs, A, c, hnk, hP⟩ := hrel
    clear HP0
    have hfit : n ≤ lim := by have := hP.out.my.fits; have := hP.out.len; omega
    have hn60 : n ≤ 60 := by have := hnk.out; omega
    by_cases hlt : k < len
    · obtain ⟨o, hok⟩ : ∃ o, os[k]? = some o := ⟨_, List.getElem?_eq_getElem (by rw [HOL.out]; exact hlt)⟩
      obtain ⟨hoi, bo, oo, rfl, hbo, hoc⟩ := HS.out k o hok
      obtain ⟨c0, c1, c2, c3, c4, c5, c6, c7, c8⟩ := hoc.block ((HK0.out.trans hP.out.keepW).block bo hbo)
      have hki : (k : Int) < (len : Int) := by omega
      clear hok hoc hbo
      obtain ⟨kd, oi, nn⟩ := o
      dsimp only at hoi c0 c1 c2 c3 c4 c5 c6 c7 c8
      have HL := Lib.hid hP.out.len
      have HQ := Lib.hid ((hP.out.keep ((Keep.refl wr).alloc (.cells #[.int .i64 kd, .int .i32 oi, .int .i32 nn.l, .int .i32 nn.r, .int .i64 nn.c, .int .i64 nn.s, .int .i64 nn.mn, .int .i64 nn.mx, .bool nn.k] 36))).mono (X' := fun j => j = wr.heap.size) (fun j e => .inr (by subst e; simp)))
      have HB := Lib.hid (OpB.new wr ⟨kd, oi, nn⟩)
      clear hP
      by_cases hk0 : kd = 0
      · subst hk0
        by_cases hfl : n < lim
        · go_wp2_with fail
          refine (ps_alloc n HQ.out HL.out hfl).mono ?_
          rintro e W2 ⟨rfl, hP2, ho2⟩
          obtain ⟨x0, x1, _, _⟩ := hP2.box.cells
          have HP2 := Lib.hid hP2
          clear hP2 ho2 HQ
          go_wp2_with fail
          refine (ps_ralloc HP2.out hfl htop).mono ?_
          rintro e W3 ⟨A3, c3, rfl, hF3⟩
          have hS := HP2.out.stored hF3 (n' := n + 1) (by rw [List.length_append, HL.out]; rfl)
          have HP := Lib.hid (hS.mono (X' := fun _ => False) (fun _ h => h.elim))
          obtain ⟨x0, x1, x2, x3⟩ := (HP2.out.box.block (hF3.2.1.block _ HP2.out.box.lt)).cells
          have hlb : W1.heap.size < W3.heap.size := Nat.lt_of_lt_of_le HP2.out.box.lt hF3.2.1.size
          clear hF3 hS HP2
          obtain ⟨ys, hys⟩ : ∃ ys, ys = xs ++ [Nd.zero] := ⟨_, rfl⟩
          rw [← hys] at HP
          clear hys
          have hN1 : n + 1 ≤ k + 1 := by have := hnk.out; omega
          have hN2 : n + 1 ≤ lim := hfl
          generalize n + 1 = N at *
          go_wp2_with fail
          generalize ((W3.setCell ⟨W1.heap.size, 0, none⟩ (.slice A3 N c3)).setCell ⟨W1.heap.size, 1, none⟩ (.int .i64 lim)).alloc (.cells #[.slice A3 N c3, .int .i64 lim] 30) = V at *
          have HSS := Lib.hid (show ∀ w', Keep V w' → Keep V w' ∧ (w'.cell? ⟨W1.heap.size, 0, none⟩ = some (.slice A3 N c3)) from fun w' h => ⟨h, (HP.out.box.block (h.block _ HP.out.box.lt)).cells.1⟩)
          have hKc := (Keep.refl V).drew
          have hwr : IntKind.i64.wrap ((lim : Int) - (N : Int)) = (lim : Int) - (N : Int) := by rw [IntKind.wrap_i64]; omega
          go_wp2_with fail
          refine seq_region (S := fun w' => Keep V w' ∧ (w'.cell? ⟨W1.heap.size, 0, none⟩ = some (.slice A3 N c3))) [⟨0, 128, 5708990770823839524233143877797980545530986496⟩, ⟨1, 5708990770823839524233143877797980545530986496, 11417981541647679048466287755595961091061972992⟩, ⟨0, 512, 22835963083295358096932575511191922182123945984⟩, ⟨4, 22835963083295358096932575511191922182123945984, 45671926166590716193865151022383844364247891968⟩, ⟨8, 45671926166590716193865151022383844364247891968, 91343852333181432387730302044767688728495783936⟩, ⟨18, 102761833874829111436196589800363649819557756928, 182687704666362864775460604089535377456991567872⟩, ⟨34, 182687704666362864775460604089535377456991567872, 365375409332725729550921208179070754913983135744⟩, ⟨64, 365375409332725729550921208179070754913983135872, 730750818665451459101842416358141509827966271488⟩, ⟨192, 1096126227998177188652763624537212264741949407232, 1461501637330902918203684832716283019655932542976⟩, ⟨64, 365375409332725729550921208179070754913983135745, 2923003274661805836407369665432566039311865085952⟩, ⟨64, 365375409332725729550921208179070754913983136256, 5846006549323611672814739330865132078623730171904⟩, ⟨1088, 6211381958656337402365660539044202833537713307648, 11692013098647223345629478661730264157247460343808⟩, ⟨2112, 12057388507979949075180399869909334912161443479552, 23384026197294446691258957323460528314494920687616⟩, ⟨4672, 26672404881288978257217248197072165108720768909312, 46768052394588893382517914646921056628989841375232⟩, ⟨8512, 48594929441252522030272520687816410403559757053952, 93536104789177786765035829293842113257979682750464⟩, ⟨16448, 93901480198510512494586750502021184012893665886208, 187072209578355573530071658587684226515959365500928⟩] [(0, false), (2, false), (3, false), (4, false), (1, true), (5, false), (6, false), (7, false), (9, false), (10, false), (11, false), (12, false), (13, false), (8, true), (14, false), (15, false)] rfl (by kernel_rfl) (by kernel_rfl) (fun _ _ d _ _ h => by cases d <;> exact h) (HSS.out _ hKc) ?_
          simp only [rowsOf, rowAt, gslot, List.map_cons, List.map_nil, List.getElem?_toArray, List.getElem?_cons_zero, List.getElem?_cons_succ, Option.bind_some]
          repeat (first
            | (refine seq_take (v := ?_) (a' := ?_) (by rfl) ?_ ?_ ?_
               rotate_left 2
               · (intro w hSw; obtain ⟨-, hSw⟩ := hSw; go_split_ands; go_simp; with_reducible rfl)
               · (simp only [Act.put, List.setIfInBounds_toArray, List.set_cons_zero, List.set_cons_succ]; with_reducible rfl))
            | (refine seq_skip (a' := ?_) (HSS.out _ hKc) (by rfl) ?_ ?_
               rotate_left
               · (simp only [Act.put, List.setIfInBounds_toArray, List.set_cons_zero, List.set_cons_succ]; with_reducible rfl)))
          refine seq_callv (f := 16) (args := ?_) (v := ?_) (a' := ?_) (by rfl) (by rfl) (by rfl) Try.call16 ?_ ?_ ?_ ?_
          rotate_left 3
          · (go_simp; with_reducible rfl)
          · ((with_reducible refine (ps_len (HP.out.kept hKc)).mono ?_)
             rintro e w' ⟨rfl, rfl⟩
             refine ⟨?_, HSS.out _ hKc⟩
             with_reducible rfl)
          · (simp only [Act.put, List.setIfInBounds_toArray, List.set_cons_zero, List.set_cons_succ]; with_reducible rfl)
          clear hKc
          intro w2 hw2
          have hKc := hw2.1
          clear hw2
          repeat (first
            | (refine seq_take (v := ?_) (a' := ?_) (by rfl) ?_ ?_ ?_
               rotate_left 2
               · (intro w hSw; obtain ⟨-, hSw⟩ := hSw; go_split_ands; go_simp; with_reducible rfl)
               · (simp only [Act.put, List.setIfInBounds_toArray, List.set_cons_zero, List.set_cons_succ]; with_reducible rfl))
            | (refine seq_skip (a' := ?_) (HSS.out _ hKc) (by rfl) ?_ ?_
               rotate_left
               · (simp only [Act.put, List.setIfInBounds_toArray, List.set_cons_zero, List.set_cons_succ]; with_reducible rfl)))
          refine seq_callv (f := 17) (args := ?_) (v := ?_) (a' := ?_) (by rfl) (by rfl) (by rfl) Try.call17 ?_ ?_ ?_ ?_
          rotate_left 3
          · (go_simp; with_reducible rfl)
          · ((with_reducible refine (ps_room (HP.out.kept hKc)).mono ?_)
             rintro e w' ⟨rfl, hk⟩
             refine ⟨?_, HSS.out _ (hKc.trans hk)⟩
             with_reducible rfl)
          · (simp only [Act.put, List.setIfInBounds_toArray, List.set_cons_zero, List.set_cons_succ]; with_reducible rfl)
          clear hKc
          intro w2 hw2
          have hKc := hw2.1
          clear hw2
          repeat (first
            | (refine seq_take (v := ?_) (a' := ?_) (by rfl) ?_ ?_ ?_
               rotate_left 2
               · (intro w hSw; obtain ⟨-, hSw⟩ := hSw; go_split_ands; go_simp; with_reducible rfl)
               · (simp only [Act.put, List.setIfInBounds_toArray, List.set_cons_zero, List.set_cons_succ]; with_reducible rfl))
            | (refine seq_skip (a' := ?_) (HSS.out _ hKc) (by rfl) ?_ ?_
               rotate_left
               · (simp only [Act.put, List.setIfInBounds_toArray, List.set_cons_zero, List.set_cons_succ]; with_reducible rfl)))
          refine seq_nil ?_
          go_wp2
          go_roundw
          case rel => exact ⟨k + 1, N, by omega, by go_num, ys, A3, c3, Lib.hid (by omega), Lib.hid ((HP.out.kept hKc).mono (fun _ h => h.elim))⟩
          case measure => simp [intOf]; omega
        · have hfe : n = lim := by omega
          have hN1 : n ≤ k + 1 := by have := hnk.out; omega
          have HFE := Lib.hid hfe
          clear hfe
          go_wp2_with fail
          refine (my_full HQ.out.my (by rw [HL.out]; exact HFE.out)).mono ?_
          rintro e W2 ⟨rfl, hk2⟩
          have hP2 := HQ.out.kept hk2
          obtain ⟨x0, x1, _, _⟩ := hP2.box.cells
          have HP2 := Lib.hid hP2
          clear hP2 hk2 HQ
          go_wp2_with fail
          refine (ps_rfull HP2.out HFE.out).mono ?_
          rintro e W3 ⟨rfl, hF3⟩
          have hS := HP2.out.stored hF3 (n' := n) HL.out
          have HP := Lib.hid (hS.mono (X' := fun _ => False) (fun _ h => h.elim))
          obtain ⟨x0, x1, x2, x3⟩ := (HP2.out.box.block (hF3.2.1.block _ HP2.out.box.lt)).cells
          have hlb : W1.heap.size < W3.heap.size := Nat.lt_of_lt_of_le HP2.out.box.lt hF3.2.1.size
          clear hF3 hS HP2
          go_wp2_with fail
          generalize ((W3.setCell ⟨W1.heap.size, 0, none⟩ (.slice A n c)).setCell ⟨W1.heap.size, 1, none⟩ (.int .i64 lim)).alloc (.cells #[.slice A n c, .int .i64 lim] 30) = V at *
          have HSS := Lib.hid (show ∀ w', Keep V w' → Keep V w' ∧ (w'.cell? ⟨W1.heap.size, 0, none⟩ = some (.slice A n c)) from fun w' h => ⟨h, (HP.out.box.block (h.block _ HP.out.box.lt)).cells.1⟩)
          have hKc := (Keep.refl V).drew
          have hwr : IntKind.i64.wrap ((lim : Int) - (n : Int)) = (lim : Int) - (n : Int) := by rw [IntKind.wrap_i64]; omega
          go_wp2_with fail
          refine seq_region (S := fun w' => Keep V w' ∧ (w'.cell? ⟨W1.heap.size, 0, none⟩ = some (.slice A n c))) [⟨0, 128, 5708990770823839524233143877797980545530986496⟩, ⟨1, 5708990770823839524233143877797980545530986496, 11417981541647679048466287755595961091061972992⟩, ⟨0, 512, 22835963083295358096932575511191922182123945984⟩, ⟨4, 22835963083295358096932575511191922182123945984, 45671926166590716193865151022383844364247891968⟩, ⟨8, 45671926166590716193865151022383844364247891968, 91343852333181432387730302044767688728495783936⟩, ⟨18, 102761833874829111436196589800363649819557756928, 182687704666362864775460604089535377456991567872⟩, ⟨34, 182687704666362864775460604089535377456991567872, 365375409332725729550921208179070754913983135744⟩, ⟨64, 365375409332725729550921208179070754913983135872, 730750818665451459101842416358141509827966271488⟩, ⟨192, 1096126227998177188652763624537212264741949407232, 1461501637330902918203684832716283019655932542976⟩, ⟨64, 365375409332725729550921208179070754913983135745, 2923003274661805836407369665432566039311865085952⟩, ⟨64, 365375409332725729550921208179070754913983136256, 5846006549323611672814739330865132078623730171904⟩, ⟨1088, 6211381958656337402365660539044202833537713307648, 11692013098647223345629478661730264157247460343808⟩, ⟨2112, 12057388507979949075180399869909334912161443479552, 23384026197294446691258957323460528314494920687616⟩, ⟨4672, 26672404881288978257217248197072165108720768909312, 46768052394588893382517914646921056628989841375232⟩, ⟨8512, 48594929441252522030272520687816410403559757053952, 93536104789177786765035829293842113257979682750464⟩, ⟨16448, 93901480198510512494586750502021184012893665886208, 187072209578355573530071658587684226515959365500928⟩] [(0, false), (2, false), (3, false), (4, false), (1, true), (5, false), (6, false), (7, false), (9, false), (10, false), (11, false), (12, false), (13, false), (8, true), (14, false), (15, false)] rfl (by kernel_rfl) (by kernel_rfl) (fun _ _ d _ _ h => by cases d <;> exact h) (HSS.out _ hKc) ?_
          simp only [rowsOf, rowAt, gslot, List.map_cons, List.map_nil, List.getElem?_toArray, List.getElem?_cons_zero, List.getElem?_cons_succ, Option.bind_some]
          repeat (first
            | (refine seq_take (v := ?_) (a' := ?_) (by rfl) ?_ ?_ ?_
               rotate_left 2
               · (intro w hSw; obtain ⟨-, hSw⟩ := hSw; go_split_ands; go_simp; with_reducible rfl)
               · (simp only [Act.put, List.setIfInBounds_toArray, List.set_cons_zero, List.set_cons_succ]; with_reducible rfl))
            | (refine seq_skip (a' := ?_) (HSS.out _ hKc) (by rfl) ?_ ?_
               rotate_left
               · (simp only [Act.put, List.setIfInBounds_toArray, List.set_cons_zero, List.set_cons_succ]; with_reducible rfl)))
          refine seq_callv (f := 16) (args := ?_) (v := ?_) (a' := ?_) (by rfl) (by rfl) (by rfl) Try.call16 ?_ ?_ ?_ ?_
          rotate_left 3
          · (go_simp; with_reducible rfl)
          · ((with_reducible refine (ps_len (HP.out.kept hKc)).mono ?_)
             rintro e w' ⟨rfl, rfl⟩
             refine ⟨?_, HSS.out _ hKc⟩
             with_reducible rfl)
          · (simp only [Act.put, List.setIfInBounds_toArray, List.set_cons_zero, List.set_cons_succ]; with_reducible rfl)
          clear hKc
          intro w2 hw2
          have hKc := hw2.1
          clear hw2
          repeat (first
            | (refine seq_take (v := ?_) (a' := ?_) (by rfl) ?_ ?_ ?_
               rotate_left 2
               · (intro w hSw; obtain ⟨-, hSw⟩ := hSw; go_split_ands; go_simp; with_reducible rfl)
               · (simp only [Act.put, List.setIfInBounds_toArray, List.set_cons_zero, List.set_cons_succ]; with_reducible rfl))
            | (refine seq_skip (a' := ?_) (HSS.out _ hKc) (by rfl) ?_ ?_
               rotate_left
               · (simp only [Act.put, List.setIfInBounds_toArray, List.set_cons_zero, List.set_cons_succ]; with_reducible rfl)))
          refine seq_callv (f := 17) (args := ?_) (v := ?_) (a' := ?_) (by rfl) (by rfl) (by rfl) Try.call17 ?_ ?_ ?_ ?_
          rotate_left 3
          · (go_simp; with_reducible rfl)
          · ((with_reducible refine (ps_room (HP.out.kept hKc)).mono ?_)
             rintro e w' ⟨rfl, hk⟩
             refine ⟨?_, HSS.out _ (hKc.trans hk)⟩
             with_reducible rfl)
          · (simp only [Act.put, List.setIfInBounds_toArray, List.set_cons_zero, List.set_cons_succ]; with_reducible rfl)
          clear hKc
          intro w2 hw2
          have hKc := hw2.1
          clear hw2
          repeat (first
            | (refine seq_take (v := ?_) (a' := ?_) (by rfl) ?_ ?_ ?_
               rotate_left 2
               · (intro w hSw; obtain ⟨-, hSw⟩ := hSw; go_split_ands; go_simp; with_reducible rfl)
               · (simp only [Act.put, List.setIfInBounds_toArray, List.set_cons_zero, List.set_cons_succ]; with_reducible rfl))
            | (refine seq_skip (a' := ?_) (HSS.out _ hKc) (by rfl) ?_ ?_
               rotate_left
               · (simp only [Act.put, List.setIfInBounds_toArray, List.set_cons_zero, List.set_cons_succ]; with_reducible rfl)))
          refine seq_nil ?_
          go_wp2
          go_roundw
          case rel => exact ⟨k + 1, n, by omega, by go_num, xs, A, c, Lib.hid (by omega), Lib.hid ((HP.out.kept hKc).mono (fun _ h => h.elim))⟩
          case measure => simp [intOf]; omega
      have t0 : (kd == 0) = false := by rw [beq_eq_false_iff_ne]; exact hk0
      clear hk0
      by_cases hk1 : kd = 1
      · subst hk1
        by_cases hfl : n < lim
        · go_wp2_with fail
          refine (ps_alloc n HQ.out HL.out hfl).mono ?_
          rintro e W2 ⟨rfl, hP2, ho2⟩
          obtain ⟨x0, x1, _, _⟩ := hP2.box.cells
          have HP2 := Lib.hid hP2
          clear hP2 ho2 HQ
          go_wp2_with fail
          refine (ps_ralloc HP2.out hfl htop).mono ?_
          rintro e W3 ⟨A3, c3, rfl, hF3⟩
          have hS := HP2.out.stored hF3 (n' := n + 1) (by rw [List.length_append, HL.out]; rfl)
          have HP := Lib.hid (hS.mono (X' := fun _ => False) (fun _ h => h.elim))
          obtain ⟨x0, x1, x2, x3⟩ := (HP2.out.box.block (hF3.2.1.block _ HP2.out.box.lt)).cells
          have hlb : W1.heap.size < W3.heap.size := Nat.lt_of_lt_of_le HP2.out.box.lt hF3.2.1.size
          clear hF3 hS HP2
          obtain ⟨ys, hys⟩ : ∃ ys, ys = xs ++ [Nd.zero] := ⟨_, rfl⟩
          rw [← hys] at HP
          clear hys
          have hN1 : n + 1 ≤ k + 1 := by have := hnk.out; omega
          have hN2 : n + 1 ≤ lim := hfl
          generalize n + 1 = N at *
          go_wp2_with fail
          generalize ((W3.setCell ⟨W1.heap.size, 0, none⟩ (.slice A3 N c3)).setCell ⟨W1.heap.size, 1, none⟩ (.int .i64 lim)).alloc (.cells #[.slice A3 N c3, .int .i64 lim] 30) = V at *
          have HSS := Lib.hid (show ∀ w', Keep V w' → Keep V w' ∧ (w'.cell? ⟨W1.heap.size, 0, none⟩ = some (.slice A3 N c3)) from fun w' h => ⟨h, (HP.out.box.block (h.block _ HP.out.box.lt)).cells.1⟩)
          have hKc := (Keep.refl V).drew
          have hwr : IntKind.i64.wrap ((lim : Int) - (N : Int)) = (lim : Int) - (N : Int) := by rw [IntKind.wrap_i64]; omega
          go_wp2_with fail
          refine seq_region (S := fun w' => Keep V w' ∧ (w'.cell? ⟨W1.heap.size, 0, none⟩ = some (.slice A3 N c3))) [⟨0, 128, 5708990770823839524233143877797980545530986496⟩, ⟨1, 5708990770823839524233143877797980545530986496, 11417981541647679048466287755595961091061972992⟩, ⟨0, 512, 22835963083295358096932575511191922182123945984⟩, ⟨4, 22835963083295358096932575511191922182123945984, 45671926166590716193865151022383844364247891968⟩, ⟨8, 45671926166590716193865151022383844364247891968, 91343852333181432387730302044767688728495783936⟩, ⟨18, 102761833874829111436196589800363649819557756928, 182687704666362864775460604089535377456991567872⟩, ⟨34, 182687704666362864775460604089535377456991567872, 365375409332725729550921208179070754913983135744⟩, ⟨64, 365375409332725729550921208179070754913983135872, 730750818665451459101842416358141509827966271488⟩, ⟨192, 1096126227998177188652763624537212264741949407232, 1461501637330902918203684832716283019655932542976⟩, ⟨64, 365375409332725729550921208179070754913983135745, 2923003274661805836407369665432566039311865085952⟩, ⟨64, 365375409332725729550921208179070754913983136256, 5846006549323611672814739330865132078623730171904⟩, ⟨1088, 6211381958656337402365660539044202833537713307648, 11692013098647223345629478661730264157247460343808⟩, ⟨2112, 12057388507979949075180399869909334912161443479552, 23384026197294446691258957323460528314494920687616⟩, ⟨4672, 26672404881288978257217248197072165108720768909312, 46768052394588893382517914646921056628989841375232⟩, ⟨8512, 48594929441252522030272520687816410403559757053952, 93536104789177786765035829293842113257979682750464⟩, ⟨16448, 93901480198510512494586750502021184012893665886208, 187072209578355573530071658587684226515959365500928⟩] [(0, false), (2, false), (3, false), (4, false), (1, true), (5, false), (6, false), (7, false), (9, false), (10, false), (11, false), (12, false), (13, false), (8, true), (14, false), (15, false)] rfl (by kernel_rfl) (by kernel_rfl) (fun _ _ d _ _ h => by cases d <;> exact h) (HSS.out _ hKc) ?_
          simp only [rowsOf, rowAt, gslot, List.map_cons, List.map_nil, List.getElem?_toArray, List.getElem?_cons_zero, List.getElem?_cons_succ, Option.bind_some]
          repeat (first
            | (refine seq_take (v := ?_) (a' := ?_) (by rfl) ?_ ?_ ?_
               rotate_left 2
               · (intro w hSw; obtain ⟨-, hSw⟩ := hSw; go_split_ands; go_simp; with_reducible rfl)
               · (simp only [Act.put, List.setIfInBounds_toArray, List.set_cons_zero, List.set_cons_succ]; with_reducible rfl))
            | (refine seq_skip (a' := ?_) (HSS.out _ hKc) (by rfl) ?_ ?_
               rotate_left
               · (simp only [Act.put, List.setIfInBounds_toArray, List.set_cons_zero, List.set_cons_succ]; with_reducible rfl)))
          refine seq_callv (f := 16) (args := ?_) (v := ?_) (a' := ?_) (by rfl) (by rfl) (by rfl) Try.call16 ?_ ?_ ?_ ?_
          rotate_left 3
          · (go_simp; with_reducible rfl)
          · ((with_reducible refine (ps_len (HP.out.kept hKc)).mono ?_)
             rintro e w' ⟨rfl, rfl⟩
             refine ⟨?_, HSS.out _ hKc⟩
             with_reducible rfl)
          · (simp only [Act.put, List.setIfInBounds_toArray, List.set_cons_zero, List.set_cons_succ]; with_reducible rfl)
          clear hKc
          intro w2 hw2
          have hKc := hw2.1
          clear hw2
          repeat (first
            | (refine seq_take (v := ?_) (a' := ?_) (by rfl) ?_ ?_ ?_
               rotate_left 2
               · (intro w hSw; obtain ⟨-, hSw⟩ := hSw; go_split_ands; go_simp; with_reducible rfl)
               · (simp only [Act.put, List.setIfInBounds_toArray, List.set_cons_zero, List.set_cons_succ]; with_reducible rfl))
            | (refine seq_skip (a' := ?_) (HSS.out _ hKc) (by rfl) ?_ ?_
               rotate_left
               · (simp only [Act.put, List.setIfInBounds_toArray, List.set_cons_zero, List.set_cons_succ]; with_reducible rfl)))
          refine seq_callv (f := 17) (args := ?_) (v := ?_) (a' := ?_) (by rfl) (by rfl) (by rfl) Try.call17 ?_ ?_ ?_ ?_
          rotate_left 3
          · (go_simp; with_reducible rfl)
          · ((with_reducible refine (ps_room (HP.out.kept hKc)).mono ?_)
             rintro e w' ⟨rfl, hk⟩
             refine ⟨?_, HSS.out _ (hKc.trans hk)⟩
             with_reducible rfl)
          · (simp only [Act.put, List.setIfInBounds_toArray, List.set_cons_zero, List.set_cons_succ]; with_reducible rfl)
          clear hKc
          intro w2 hw2
          have hKc := hw2.1
          clear hw2
          repeat (first
            | (refine seq_take (v := ?_) (a' := ?_) (by rfl) ?_ ?_ ?_
               rotate_left 2
               · (intro w hSw; obtain ⟨-, hSw⟩ := hSw; go_split_ands; go_simp; with_reducible rfl)
               · (simp only [Act.put, List.setIfInBounds_toArray, List.set_cons_zero, List.set_cons_succ]; with_reducible rfl))
            | (refine seq_skip (a' := ?_) (HSS.out _ hKc) (by rfl) ?_ ?_
               rotate_left
               · (simp only [Act.put, List.setIfInBounds_toArray, List.set_cons_zero, List.set_cons_succ]; with_reducible rfl)))
          refine seq_nil ?_
          go_wp2
          go_roundw
          case rel => exact ⟨k + 1, N, by omega, by go_num, ys, A3, c3, Lib.hid (by omega), Lib.hid ((HP.out.kept hKc).mono (fun _ h => h.elim))⟩
          case measure => simp [intOf]; omega
        · have hfe : n = lim := by omega
          have hN1 : n ≤ k + 1 := by have := hnk.out; omega
          have HFE := Lib.hid hfe
          clear hfe
          go_wp2_with fail
          refine (my_full HQ.out.my (by rw [HL.out]; exact HFE.out)).mono ?_
          rintro e W2 ⟨rfl, hk2⟩
          have hP2 := HQ.out.kept hk2
          obtain ⟨x0, x1, _, _⟩ := hP2.box.cells
          have HP2 := Lib.hid hP2
          clear hP2 hk2 HQ
          go_wp2_with fail
          refine (ps_rfull HP2.out HFE.out).mono ?_
          rintro e W3 ⟨rfl, hF3⟩
          have hS := HP2.out.stored hF3 (n' := n) HL.out
          have HP := Lib.hid (hS.mono (X' := fun _ => False) (fun _ h => h.elim))
          obtain ⟨x0, x1, x2, x3⟩ := (HP2.out.box.block (hF3.2.1.block _ HP2.out.box.lt)).cells
          have hlb : W1.heap.size < W3.heap.size := Nat.lt_of_lt_of_le HP2.out.box.lt hF3.2.1.size
          clear hF3 hS HP2
          go_wp2_with fail
          generalize ((W3.setCell ⟨W1.heap.size, 0, none⟩ (.slice A n c)).setCell ⟨W1.heap.size, 1, none⟩ (.int .i64 lim)).alloc (.cells #[.slice A n c, .int .i64 lim] 30) = V at *
          have HSS := Lib.hid (show ∀ w', Keep V w' → Keep V w' ∧ (w'.cell? ⟨W1.heap.size, 0, none⟩ = some (.slice A n c)) from fun w' h => ⟨h, (HP.out.box.block (h.block _ HP.out.box.lt)).cells.1⟩)
          have hKc := (Keep.refl V).drew
          have hwr : IntKind.i64.wrap ((lim : Int) - (n : Int)) = (lim : Int) - (n : Int) := by rw [IntKind.wrap_i64]; omega
          go_wp2_with fail
          refine seq_region (S := fun w' => Keep V w' ∧ (w'.cell? ⟨W1.heap.size, 0, none⟩ = some (.slice A n c))) [⟨0, 128, 5708990770823839524233143877797980545530986496⟩, ⟨1, 5708990770823839524233143877797980545530986496, 11417981541647679048466287755595961091061972992⟩, ⟨0, 512, 22835963083295358096932575511191922182123945984⟩, ⟨4, 22835963083295358096932575511191922182123945984, 45671926166590716193865151022383844364247891968⟩, ⟨8, 45671926166590716193865151022383844364247891968, 91343852333181432387730302044767688728495783936⟩, ⟨18, 102761833874829111436196589800363649819557756928, 182687704666362864775460604089535377456991567872⟩, ⟨34, 182687704666362864775460604089535377456991567872, 365375409332725729550921208179070754913983135744⟩, ⟨64, 365375409332725729550921208179070754913983135872, 730750818665451459101842416358141509827966271488⟩, ⟨192, 1096126227998177188652763624537212264741949407232, 1461501637330902918203684832716283019655932542976⟩, ⟨64, 365375409332725729550921208179070754913983135745, 2923003274661805836407369665432566039311865085952⟩, ⟨64, 365375409332725729550921208179070754913983136256, 5846006549323611672814739330865132078623730171904⟩, ⟨1088, 6211381958656337402365660539044202833537713307648, 11692013098647223345629478661730264157247460343808⟩, ⟨2112, 12057388507979949075180399869909334912161443479552, 23384026197294446691258957323460528314494920687616⟩, ⟨4672, 26672404881288978257217248197072165108720768909312, 46768052394588893382517914646921056628989841375232⟩, ⟨8512, 48594929441252522030272520687816410403559757053952, 93536104789177786765035829293842113257979682750464⟩, ⟨16448, 93901480198510512494586750502021184012893665886208, 187072209578355573530071658587684226515959365500928⟩] [(0, false), (2, false), (3, false), (4, false), (1, true), (5, false), (6, false), (7, false), (9, false), (10, false), (11, false), (12, false), (13, false), (8, true), (14, false), (15, false)] rfl (by kernel_rfl) (by kernel_rfl) (fun _ _ d _ _ h => by cases d <;> exact h) (HSS.out _ hKc) ?_
          simp only [rowsOf, rowAt, gslot, List.map_cons, List.map_nil, List.getElem?_toArray, List.getElem?_cons_zero, List.getElem?_cons_succ, Option.bind_some]
          repeat (first
            | (refine seq_take (v := ?_) (a' := ?_) (by rfl) ?_ ?_ ?_
               rotate_left 2
               · (intro w hSw; obtain ⟨-, hSw⟩ := hSw; go_split_ands; go_simp; with_reducible rfl)
               · (simp only [Act.put, List.setIfInBounds_toArray, List.set_cons_zero, List.set_cons_succ]; with_reducible rfl))
            | (refine seq_skip (a' := ?_) (HSS.out _ hKc) (by rfl) ?_ ?_
               rotate_left
               · (simp only [Act.put, List.setIfInBounds_toArray, List.set_cons_zero, List.set_cons_succ]; with_reducible rfl)))
          refine seq_callv (f := 16) (args := ?_) (v := ?_) (a' := ?_) (by rfl) (by rfl) (by rfl) Try.call16 ?_ ?_ ?_ ?_
          rotate_left 3
          · (go_simp; with_reducible rfl)
          · ((with_reducible refine (ps_len (HP.out.kept hKc)).mono ?_)
             rintro e w' ⟨rfl, rfl⟩
             refine ⟨?_, HSS.out _ hKc⟩
             with_reducible rfl)
          · (simp only [Act.put, List.setIfInBounds_toArray, List.set_cons_zero, List.set_cons_succ]; with_reducible rfl)
          clear hKc
          intro w2 hw2
          have hKc := hw2.1
          clear hw2
          repeat (first
            | (refine seq_take (v := ?_) (a' := ?_) (by rfl) ?_ ?_ ?_
               rotate_left 2
               · (intro w hSw; obtain ⟨-, hSw⟩ := hSw; go_split_ands; go_simp; with_reducible rfl)
               · (simp only [Act.put, List.setIfInBounds_toArray, List.set_cons_zero, List.set_cons_succ]; with_reducible rfl))
            | (refine seq_skip (a' := ?_) (HSS.out _ hKc) (by rfl) ?_ ?_
               rotate_left
               · (simp only [Act.put, List.setIfInBounds_toArray, List.set_cons_zero, List.set_cons_succ]; with_reducible rfl)))
          refine seq_callv (f := 17) (args := ?_) (v := ?_) (a' := ?_) (by rfl) (by rfl) (by rfl) Try.call17 ?_ ?_ ?_ ?_
          rotate_left 3
          · (go_simp; with_reducible rfl)
          · ((with_reducible refine (ps_room (HP.out.kept hKc)).mono ?_)
             rintro e w' ⟨rfl, hk⟩
             refine ⟨?_, HSS.out _ (hKc.trans hk)⟩
             with_reducible rfl)
          · (simp only [Act.put, List.setIfInBounds_toArray, List.set_cons_zero, List.set_cons_succ]; with_reducible rfl)
          clear hKc
          intro w2 hw2
          have hKc := hw2.1
          clear hw2
          repeat (first
            | (refine seq_take (v := ?_) (a' := ?_) (by rfl) ?_ ?_ ?_
               rotate_left 2
               · (intro w hSw; obtain ⟨-, hSw⟩ := hSw; go_split_ands; go_simp; with_reducible rfl)
               · (simp only [Act.put, List.setIfInBounds_toArray, List.set_cons_zero, List.set_cons_succ]; with_reducible rfl))
            | (refine seq_skip (a' := ?_) (HSS.out _ hKc) (by rfl) ?_ ?_
               rotate_left
               · (simp only [Act.put, List.setIfInBounds_toArray, List.set_cons_zero, List.set_cons_succ]; with_reducible rfl)))
          refine seq_nil ?_
          go_wp2
          go_roundw
          case rel => exact ⟨k + 1, n, by omega, by go_num, xs, A, c, Lib.hid (by omega), Lib.hid ((HP.out.kept hKc).mono (fun _ h => h.elim))⟩
          case measure => simp [intOf]; omega
      have t1 : (kd == 1) = false := by rw [beq_eq_false_iff_ne]; exact hk1
      clear hk1
      by_cases hk2 : kd = 2
      · subst hk2
        by_cases hin : 1 ≤ oi ∧ oi ≤ (n : Int)
        · obtain ⟨j, rfl⟩ : ∃ j : Nat, oi = (j : Int) + 1 := ⟨(oi - 1).toNat, by omega⟩
          have hj : j < n := by omega
          have hN1 : n ≤ k + 1 := by have := hnk.out; omega
          clear hin
          go_wp2_with fail
          refine (ps_set j nn HQ.out (by rw [HL.out]; exact hj)).mono ?_
          rintro e W2 ⟨rfl, hP2, ho2⟩
          obtain ⟨x0, x1, _, _⟩ := hP2.box.cells
          obtain ⟨d0, d1, d2, d3, d4, d5, d6, d7, d8⟩ := (HB.out.only ho2 (fun h => h rfl)).cells
          dsimp only at d0 d1 d2 d3 d4 d5 d6 d7 d8
          have HP2 := Lib.hid hP2
          clear hP2 ho2 HQ
          go_wp2_with fail
          refine (ps_rset j nn HP2.out hj (by omega)).mono ?_
          rintro e W3 ⟨A3, c3, rfl, hF3⟩
          have hS := HP2.out.stored hF3 (n' := n) (by rw [List.length_set, HL.out])
          have HP := Lib.hid (hS.mono (X' := fun _ => False) (fun _ h => h.elim))
          obtain ⟨x0, x1, x2, x3⟩ := (HP2.out.box.block (hF3.2.1.block _ HP2.out.box.lt)).cells
          have hlb : W1.heap.size < W3.heap.size := Nat.lt_of_lt_of_le HP2.out.box.lt hF3.2.1.size
          clear hF3 hS HP2
          obtain ⟨ys, hys⟩ : ∃ ys, ys = xs.set j nn := ⟨_, rfl⟩
          rw [← hys] at HP
          clear hys
          go_wp2_with fail
          generalize ((W3.setCell ⟨W1.heap.size, 0, none⟩ (.slice A3 n c3)).setCell ⟨W1.heap.size, 1, none⟩ (.int .i64 lim)).alloc (.cells #[.slice A3 n c3, .int .i64 lim] 30) = V at *
          have HSS := Lib.hid (show ∀ w', Keep V w' → Keep V w' ∧ (w'.cell? ⟨W1.heap.size, 0, none⟩ = some (.slice A3 n c3)) from fun w' h => ⟨h, (HP.out.box.block (h.block _ HP.out.box.lt)).cells.1⟩)
          have hKc := (Keep.refl V).drew
          have hwr : IntKind.i64.wrap ((lim : Int) - (n : Int)) = (lim : Int) - (n : Int) := by rw [IntKind.wrap_i64]; omega
          go_wp2_with fail
          refine seq_region (S := fun w' => Keep V w' ∧ (w'.cell? ⟨W1.heap.size, 0, none⟩ = some (.slice A3 n c3))) [⟨0, 128, 5708990770823839524233143877797980545530986496⟩, ⟨1, 5708990770823839524233143877797980545530986496, 11417981541647679048466287755595961091061972992⟩, ⟨0, 512, 22835963083295358096932575511191922182123945984⟩, ⟨4, 22835963083295358096932575511191922182123945984, 45671926166590716193865151022383844364247891968⟩, ⟨8, 45671926166590716193865151022383844364247891968, 91343852333181432387730302044767688728495783936⟩, ⟨18, 102761833874829111436196589800363649819557756928, 182687704666362864775460604089535377456991567872⟩, ⟨34, 182687704666362864775460604089535377456991567872, 365375409332725729550921208179070754913983135744⟩, ⟨64, 365375409332725729550921208179070754913983135872, 730750818665451459101842416358141509827966271488⟩, ⟨192, 1096126227998177188652763624537212264741949407232, 1461501637330902918203684832716283019655932542976⟩, ⟨64, 365375409332725729550921208179070754913983135745, 2923003274661805836407369665432566039311865085952⟩, ⟨64, 365375409332725729550921208179070754913983136256, 5846006549323611672814739330865132078623730171904⟩, ⟨1088, 6211381958656337402365660539044202833537713307648, 11692013098647223345629478661730264157247460343808⟩, ⟨2112, 12057388507979949075180399869909334912161443479552, 23384026197294446691258957323460528314494920687616⟩, ⟨4672, 26672404881288978257217248197072165108720768909312, 46768052394588893382517914646921056628989841375232⟩, ⟨8512, 48594929441252522030272520687816410403559757053952, 93536104789177786765035829293842113257979682750464⟩, ⟨16448, 93901480198510512494586750502021184012893665886208, 187072209578355573530071658587684226515959365500928⟩] [(0, false), (2, false), (3, false), (4, false), (1, true), (5, false), (6, false), (7, false), (9, false), (10, false), (11, false), (12, false), (13, false), (8, true), (14, false), (15, false)] rfl (by kernel_rfl) (by kernel_rfl) (fun _ _ d _ _ h => by cases d <;> exact h) (HSS.out _ hKc) ?_
          simp only [rowsOf, rowAt, gslot, List.map_cons, List.map_nil, List.getElem?_toArray, List.getElem?_cons_zero, List.getElem?_cons_succ, Option.bind_some]
          repeat (first
            | (refine seq_take (v := ?_) (a' := ?_) (by rfl) ?_ ?_ ?_
               rotate_left 2
               · (intro w hSw; obtain ⟨-, hSw⟩ := hSw; go_split_ands; go_simp; with_reducible rfl)
               · (simp only [Act.put, List.setIfInBounds_toArray, List.set_cons_zero, List.set_cons_succ]; with_reducible rfl))
            | (refine seq_skip (a' := ?_) (HSS.out _ hKc) (by rfl) ?_ ?_
               rotate_left
               · (simp only [Act.put, List.setIfInBounds_toArray, List.set_cons_zero, List.set_cons_succ]; with_reducible rfl)))
          refine seq_callv (f := 16) (args := ?_) (v := ?_) (a' := ?_) (by rfl) (by rfl) (by rfl) Try.call16 ?_ ?_ ?_ ?_
          rotate_left 3
          · (go_simp; with_reducible rfl)
          · ((with_reducible refine (ps_len (HP.out.kept hKc)).mono ?_)
             rintro e w' ⟨rfl, rfl⟩
             refine ⟨?_, HSS.out _ hKc⟩
             with_reducible rfl)
          · (simp only [Act.put, List.setIfInBounds_toArray, List.set_cons_zero, List.set_cons_succ]; with_reducible rfl)
          clear hKc
          intro w2 hw2
          have hKc := hw2.1
          clear hw2
          repeat (first
            | (refine seq_take (v := ?_) (a' := ?_) (by rfl) ?_ ?_ ?_
               rotate_left 2
               · (intro w hSw; obtain ⟨-, hSw⟩ := hSw; go_split_ands; go_simp; with_reducible rfl)
               · (simp only [Act.put, List.setIfInBounds_toArray, List.set_cons_zero, List.set_cons_succ]; with_reducible rfl))
            | (refine seq_skip (a' := ?_) (HSS.out _ hKc) (by rfl) ?_ ?_
               rotate_left
               · (simp only [Act.put, List.setIfInBounds_toArray, List.set_cons_zero, List.set_cons_succ]; with_reducible rfl)))
          refine seq_callv (f := 17) (args := ?_) (v := ?_) (a' := ?_) (by rfl) (by rfl) (by rfl) Try.call17 ?_ ?_ ?_ ?_
          rotate_left 3
          · (go_simp; with_reducible rfl)
          · ((with_reducible refine (ps_room (HP.out.kept hKc)).mono ?_)
             rintro e w' ⟨rfl, hk⟩
             refine ⟨?_, HSS.out _ (hKc.trans hk)⟩
             with_reducible rfl)
          · (simp only [Act.put, List.setIfInBounds_toArray, List.set_cons_zero, List.set_cons_succ]; with_reducible rfl)
          clear hKc
          intro w2 hw2
          have hKc := hw2.1
          clear hw2
          repeat (first
            | (refine seq_take (v := ?_) (a' := ?_) (by rfl) ?_ ?_ ?_
               rotate_left 2
               · (intro w hSw; obtain ⟨-, hSw⟩ := hSw; go_split_ands; go_simp; with_reducible rfl)
               · (simp only [Act.put, List.setIfInBounds_toArray, List.set_cons_zero, List.set_cons_succ]; with_reducible rfl))
            | (refine seq_skip (a' := ?_) (HSS.out _ hKc) (by rfl) ?_ ?_
               rotate_left
               · (simp only [Act.put, List.setIfInBounds_toArray, List.set_cons_zero, List.set_cons_succ]; with_reducible rfl)))
          refine seq_nil ?_
          go_wp2
          go_roundw
          case rel => exact ⟨k + 1, n, by omega, by go_num, ys, A3, c3, Lib.hid (by omega), Lib.hid ((HP.out.kept hKc).mono (fun _ h => h.elim))⟩
          case measure => simp [intOf]; omega
        · have HIN := Lib.hid hin
          have hN1 : n ≤ k + 1 := by have := hnk.out; omega
          clear hin
          go_wp2_with fail
          refine (my_setno oi nn HQ.out.my hoi (by rw [HL.out]; exact HIN.out)).mono ?_
          rintro e W2 ⟨rfl, hk2⟩
          have hP2 := HQ.out.kept hk2
          obtain ⟨x0, x1, _, _⟩ := hP2.box.cells
          obtain ⟨d0, d1, d2, d3, d4, d5, d6, d7, d8⟩ := (HB.out.keep hk2).cells
          dsimp only at d0 d1 d2 d3 d4 d5 d6 d7 d8
          have HP2 := Lib.hid hP2
          clear hP2 hk2 HQ
          go_wp2_with fail
          refine (ps_rsetno oi nn HP2.out hoi HIN.out).mono ?_
          rintro e W3 ⟨rfl, hF3⟩
          have hS := HP2.out.stored hF3 (n' := n) HL.out
          have HP := Lib.hid (hS.mono (X' := fun _ => False) (fun _ h => h.elim))
          obtain ⟨x0, x1, x2, x3⟩ := (HP2.out.box.block (hF3.2.1.block _ HP2.out.box.lt)).cells
          have hlb : W1.heap.size < W3.heap.size := Nat.lt_of_lt_of_le HP2.out.box.lt hF3.2.1.size
          clear hF3 hS HP2
          go_wp2_with fail
          generalize ((W3.setCell ⟨W1.heap.size, 0, none⟩ (.slice A n c)).setCell ⟨W1.heap.size, 1, none⟩ (.int .i64 lim)).alloc (.cells #[.slice A n c, .int .i64 lim] 30) = V at *
          have HSS := Lib.hid (show ∀ w', Keep V w' → Keep V w' ∧ (w'.cell? ⟨W1.heap.size, 0, none⟩ = some (.slice A n c)) from fun w' h => ⟨h, (HP.out.box.block (h.block _ HP.out.box.lt)).cells.1⟩)
          have hKc := (Keep.refl V).drew
          have hwr : IntKind.i64.wrap ((lim : Int) - (n : Int)) = (lim : Int) - (n : Int) := by rw [IntKind.wrap_i64]; omega
          go_wp2_with fail
          refine seq_region (S := fun w' => Keep V w' ∧ (w'.cell? ⟨W1.heap.size, 0, none⟩ = some (.slice A n c))) [⟨0, 128, 5708990770823839524233143877797980545530986496⟩, ⟨1, 5708990770823839524233143877797980545530986496, 11417981541647679048466287755595961091061972992⟩, ⟨0, 512, 22835963083295358096932575511191922182123945984⟩, ⟨4, 22835963083295358096932575511191922182123945984, 45671926166590716193865151022383844364247891968⟩, ⟨8, 45671926166590716193865151022383844364247891968, 91343852333181432387730302044767688728495783936⟩, ⟨18, 102761833874829111436196589800363649819557756928, 182687704666362864775460604089535377456991567872⟩, ⟨34, 182687704666362864775460604089535377456991567872, 365375409332725729550921208179070754913983135744⟩, ⟨64, 365375409332725729550921208179070754913983135872, 730750818665451459101842416358141509827966271488⟩, ⟨192, 1096126227998177188652763624537212264741949407232, 1461501637330902918203684832716283019655932542976⟩, ⟨64, 365375409332725729550921208179070754913983135745, 2923003274661805836407369665432566039311865085952⟩, ⟨64, 365375409332725729550921208179070754913983136256, 5846006549323611672814739330865132078623730171904⟩, ⟨1088, 6211381958656337402365660539044202833537713307648, 11692013098647223345629478661730264157247460343808⟩, ⟨2112, 12057388507979949075180399869909334912161443479552, 23384026197294446691258957323460528314494920687616⟩, ⟨4672, 26672404881288978257217248197072165108720768909312, 46768052394588893382517914646921056628989841375232⟩, ⟨8512, 48594929441252522030272520687816410403559757053952, 93536104789177786765035829293842113257979682750464⟩, ⟨16448, 93901480198510512494586750502021184012893665886208, 187072209578355573530071658587684226515959365500928⟩] [(0, false), (2, false), (3, false), (4, false), (1, true), (5, false), (6, false), (7, false), (9, false), (10, false), (11, false), (12, false), (13, false), (8, true), (14, false), (15, false)] rfl (by kernel_rfl) (by kernel_rfl) (fun _ _ d _ _ h => by cases d <;> exact h) (HSS.out _ hKc) ?_
          simp only [rowsOf, rowAt, gslot, List.map_cons, List.map_nil, List.getElem?_toArray, List.getElem?_cons_zero, List.getElem?_cons_succ, Option.bind_some]
          repeat (first
            | (refine seq_take (v := ?_) (a' := ?_) (by rfl) ?_ ?_ ?_
               rotate_left 2
               · (intro w hSw; obtain ⟨-, hSw⟩ := hSw; go_split_ands; go_simp; with_reducible rfl)
               · (simp only [Act.put, List.setIfInBounds_toArray, List.set_cons_zero, List.set_cons_succ]; with_reducible rfl))
            | (refine seq_skip (a' := ?_) (HSS.out _ hKc) (by rfl) ?_ ?_
               rotate_left
               · (simp only [Act.put, List.setIfInBounds_toArray, List.set_cons_zero, List.set_cons_succ]; with_reducible rfl)))
          refine seq_callv (f := 16) (args := ?_) (v := ?_) (a' := ?_) (by rfl) (by rfl) (by rfl) Try.call16 ?_ ?_ ?_ ?_
          rotate_left 3
          · (go_simp; with_reducible rfl)
          · ((with_reducible refine (ps_len (HP.out.kept hKc)).mono ?_)
             rintro e w' ⟨rfl, rfl⟩
             refine ⟨?_, HSS.out _ hKc⟩
             with_reducible rfl)
          · (simp only [Act.put, List.setIfInBounds_toArray, List.set_cons_zero, List.set_cons_succ]; with_reducible rfl)
          clear hKc
          intro w2 hw2
          have hKc := hw2.1
          clear hw2
          repeat (first
            | (refine seq_take (v := ?_) (a' := ?_) (by rfl) ?_ ?_ ?_
               rotate_left 2
               · (intro w hSw; obtain ⟨-, hSw⟩ := hSw; go_split_ands; go_simp; with_reducible rfl)
               · (simp only [Act.put, List.setIfInBounds_toArray, List.set_cons_zero, List.set_cons_succ]; with_reducible rfl))
            | (refine seq_skip (a' := ?_) (HSS.out _ hKc) (by rfl) ?_ ?_
               rotate_left
               · (simp only [Act.put, List.setIfInBounds_toArray, List.set_cons_zero, List.set_cons_succ]; with_reducible rfl)))
          refine seq_callv (f := 17) (args := ?_) (v := ?_) (a' := ?_) (by rfl) (by rfl) (by rfl) Try.call17 ?_ ?_ ?_ ?_
          rotate_left 3
          · (go_simp; with_reducible rfl)
          · ((with_reducible refine (ps_room (HP.out.kept hKc)).mono ?_)
             rintro e w' ⟨rfl, hk⟩
             refine ⟨?_, HSS.out _ (hKc.trans hk)⟩
             with_reducible rfl)
          · (simp only [Act.put, List.setIfInBounds_toArray, List.set_cons_zero, List.set_cons_succ]; with_reducible rfl)
          clear hKc
          intro w2 hw2
          have hKc := hw2.1
          clear hw2
          repeat (first
            | (refine seq_take (v := ?_) (a' := ?_) (by rfl) ?_ ?_ ?_
               rotate_left 2
               · (intro w hSw; obtain ⟨-, hSw⟩ := hSw; go_split_ands; go_simp; with_reducible rfl)
               · (simp only [Act.put, List.setIfInBounds_toArray, List.set_cons_zero, List.set_cons_succ]; with_reducible rfl))
            | (refine seq_skip (a' := ?_) (HSS.out _ hKc) (by rfl) ?_ ?_
               rotate_left
               · (simp only [Act.put, List.setIfInBounds_toArray, List.set_cons_zero, List.set_cons_succ]; with_reducible rfl)))
          refine seq_nil ?_
          go_wp2
          go_roundw
          case rel => exact ⟨k + 1, n, by omega, by go_num, xs, A, c, Lib.hid (by omega), Lib.hid ((HP.out.kept hKc).mono (fun _ h => h.elim))⟩
          case measure => simp [intOf]; omega
      have t2 : (kd == 2) = false := by rw [beq_eq_false_iff_ne]; exact hk2
      clear hk2
      by_cases hk3 : kd = 3
      · subst hk3
        by_cases hin : 1 ≤ oi ∧ oi ≤ (n : Int)
        · obtain ⟨j, rfl⟩ : ∃ j : Nat, oi = (j : Int) + 1 := ⟨(oi - 1).toNat, by omega⟩
          have hj : j < n := by omega
          have hN1 : n ≤ k + 1 := by have := hnk.out; omega
          clear hin
          obtain ⟨z, hz⟩ : ∃ z, xs[j]? = some z := ⟨_, List.getElem?_eq_getElem (by rw [HL.out]; exact hj)⟩
          have HZ := Lib.hid hz
          clear hz
          go_wp2_with fail
          refine (my_get j z HQ.out.my HZ.out).mono ?_
          rintro e W2 ⟨rfl, hk2⟩
          have hP2 := HQ.out.kept (hk2.alloc (.cells #[.int .i32 z.l, .int .i32 z.r, .int .i64 z.c, .int .i64 z.s, .int .i64 z.mn, .int .i64 z.mx, .bool z.k] 34))
          have hN2 := NdAt.new W2 z
          have hB2 := HB.out.keep (hk2.alloc (.cells #[.int .i32 z.l, .int .i32 z.r, .int .i64 z.c, .int .i64 z.s, .int .i64 z.mn, .int .i64 z.mx, .bool z.k] 34))
          clear hk2 HQ HB c0 c1 c2 c3 c4 c5 c6 c7 c8
          obtain ⟨V2, hV2⟩ : ∃ V2, W2.alloc (.cells #[.int .i32 z.l, .int .i32 z.r, .int .i64 z.c, .int .i64 z.s, .int .i64 z.mn, .int .i64 z.mx, .bool z.k] 34) = V2 := ⟨_, rfl⟩
          rw [hV2] at hP2 hB2 hN2
          obtain ⟨x0, x1, _, _⟩ := hP2.box.cells
          obtain ⟨d0, d1, d2, d3, d4, d5, d6, d7, d8⟩ := hB2.cells
          dsimp only at d0 d1 d2 d3 d4 d5 d6 d7 d8
          have HN2 := Lib.hid hN2
          have HB2 := Lib.hid hB2
          have HP2 := Lib.hid hP2
          clear hP2 hB2 hN2
          go_wp2_with fail
          clear hV2
          refine (ps_rhas ((j : Int) + 1) true HP2.out hoi (decide_eq_true (by omega))).mono ?_
          rintro e W3 ⟨rfl, hk3⟩
          have HP3 := Lib.hid (HP2.out.kept hk3)
          obtain ⟨br, orr, rfl, _, _, g0, g1, g2, g3, g4, g5, g6⟩ := HP3.out.rs.1 j z HZ.out
          obtain ⟨v0, v1, v2, v3, v4, v5, v6⟩ := (HN2.out.keep hk3).cells
          clear x0 x1 d0 d1 d2 d3 d4 d5 d6 d7 d8
          obtain ⟨x0, x1, _, _⟩ := HP3.out.box.cells
          obtain ⟨d0, d1, d2, d3, d4, d5, d6, d7, d8⟩ := (HB2.out.keep hk3).cells
          dsimp only at d0 d1 d2 d3 d4 d5 d6 d7 d8
          have hji : (j : Int) < (n : Int) := by omega
          have hw : IntKind.i32.wrap ((j : Int) + 1 - 1) = (j : Int) := by rw [IntKind.wrap_i32]; omega
          have hw' : IntKind.i32.wrap (j : Int) = (j : Int) := by rw [IntKind.wrap_i32]; omega
          have q1 := equal_rn z
          clear HP2 HB2 HN2 hk3
          go_wp2_with fail
          go_quiet (fail)
          have HP := Lib.hid ((HP3.out.kept ((Keep.refl W3).drewN nq)).mono (X' := fun _ => False) (fun _ h => h.elim))
          clear HP3 x0 x1 d0 d1 d2 d3 d4 d5 d6 d7 d8 g0 g1 g2 g3 g4 g5 g6 v0 v1 v2 v3 v4 v5 v6 q1 hw hw'
          go_wp2_with fail
          generalize W3.drewN nq = V at *
          have HSS := Lib.hid (show ∀ w', Keep V w' → Keep V w' ∧ (w'.cell? ⟨W1.heap.size, 0, none⟩ = some (.slice (some ⟨br, orr, none⟩) n c)) from fun w' h => ⟨h, (HP.out.box.block (h.block _ HP.out.box.lt)).cells.1⟩)
          have hKc := (Keep.refl V).drew
          have hwr : IntKind.i64.wrap ((lim : Int) - (n : Int)) = (lim : Int) - (n : Int) := by rw [IntKind.wrap_i64]; omega
          go_wp2_with fail
          refine seq_region (S := fun w' => Keep V w' ∧ (w'.cell? ⟨W1.heap.size, 0, none⟩ = some (.slice (some ⟨br, orr, none⟩) n c))) [⟨0, 128, 5708990770823839524233143877797980545530986496⟩, ⟨1, 5708990770823839524233143877797980545530986496, 11417981541647679048466287755595961091061972992⟩, ⟨0, 512, 22835963083295358096932575511191922182123945984⟩, ⟨4, 22835963083295358096932575511191922182123945984, 45671926166590716193865151022383844364247891968⟩, ⟨8, 45671926166590716193865151022383844364247891968, 91343852333181432387730302044767688728495783936⟩, ⟨18, 102761833874829111436196589800363649819557756928, 182687704666362864775460604089535377456991567872⟩, ⟨34, 182687704666362864775460604089535377456991567872, 365375409332725729550921208179070754913983135744⟩, ⟨64, 365375409332725729550921208179070754913983135872, 730750818665451459101842416358141509827966271488⟩, ⟨192, 1096126227998177188652763624537212264741949407232, 1461501637330902918203684832716283019655932542976⟩, ⟨64, 365375409332725729550921208179070754913983135745, 2923003274661805836407369665432566039311865085952⟩, ⟨64, 365375409332725729550921208179070754913983136256, 5846006549323611672814739330865132078623730171904⟩, ⟨1088, 6211381958656337402365660539044202833537713307648, 11692013098647223345629478661730264157247460343808⟩, ⟨2112, 12057388507979949075180399869909334912161443479552, 23384026197294446691258957323460528314494920687616⟩, ⟨4672, 26672404881288978257217248197072165108720768909312, 46768052394588893382517914646921056628989841375232⟩, ⟨8512, 48594929441252522030272520687816410403559757053952, 93536104789177786765035829293842113257979682750464⟩, ⟨16448, 93901480198510512494586750502021184012893665886208, 187072209578355573530071658587684226515959365500928⟩] [(0, false), (2, false), (3, false), (4, false), (1, true), (5, false), (6, false), (7, false), (9, false), (10, false), (11, false), (12, false), (13, false), (8, true), (14, false), (15, false)] rfl (by kernel_rfl) (by kernel_rfl) (fun _ _ d _ _ h => by cases d <;> exact h) (HSS.out _ hKc) ?_
          simp only [rowsOf, rowAt, gslot, List.map_cons, List.map_nil, List.getElem?_toArray, List.getElem?_cons_zero, List.getElem?_cons_succ, Option.bind_some]
          repeat (first
            | (refine seq_take (v := ?_) (a' := ?_) (by rfl) ?_ ?_ ?_
               rotate_left 2
               · (intro w hSw; obtain ⟨-, hSw⟩ := hSw; go_split_ands; go_simp; with_reducible rfl)
               · (simp only [Act.put, List.setIfInBounds_toArray, List.set_cons_zero, List.set_cons_succ]; with_reducible rfl))
            | (refine seq_skip (a' := ?_) (HSS.out _ hKc) (by rfl) ?_ ?_
               rotate_left
               · (simp only [Act.put, List.setIfInBounds_toArray, List.set_cons_zero, List.set_cons_succ]; with_reducible rfl)))
          refine seq_callv (f := 16) (args := ?_) (v := ?_) (a' := ?_) (by rfl) (by rfl) (by rfl) Try.call16 ?_ ?_ ?_ ?_
          rotate_left 3
          · (go_simp; with_reducible rfl)
          · ((with_reducible refine (ps_len (HP.out.kept hKc)).mono ?_)
             rintro e w' ⟨rfl, rfl⟩
             refine ⟨?_, HSS.out _ hKc⟩
             with_reducible rfl)
          · (simp only [Act.put, List.setIfInBounds_toArray, List.set_cons_zero, List.set_cons_succ]; with_reducible rfl)
          clear hKc
          intro w2 hw2
          have hKc := hw2.1
          clear hw2
          repeat (first
            | (refine seq_take (v := ?_) (a' := ?_) (by rfl) ?_ ?_ ?_
               rotate_left 2
               · (intro w hSw; obtain ⟨-, hSw⟩ := hSw; go_split_ands; go_simp; with_reducible rfl)
               · (simp only [Act.put, List.setIfInBounds_toArray, List.set_cons_zero, List.set_cons_succ]; with_reducible rfl))
            | (refine seq_skip (a' := ?_) (HSS.out _ hKc) (by rfl) ?_ ?_
               rotate_left
               · (simp only [Act.put, List.setIfInBounds_toArray, List.set_cons_zero, List.set_cons_succ]; with_reducible rfl)))
          refine seq_callv (f := 17) (args := ?_) (v := ?_) (a' := ?_) (by rfl) (by rfl) (by rfl) Try.call17 ?_ ?_ ?_ ?_
          rotate_left 3
          · (go_simp; with_reducible rfl)
          · ((with_reducible refine (ps_room (HP.out.kept hKc)).mono ?_)
             rintro e w' ⟨rfl, hk⟩
             refine ⟨?_, HSS.out _ (hKc.trans hk)⟩
             with_reducible rfl)
          · (simp only [Act.put, List.setIfInBounds_toArray, List.set_cons_zero, List.set_cons_succ]; with_reducible rfl)
          clear hKc
          intro w2 hw2
          have hKc := hw2.1
          clear hw2
          repeat (first
            | (refine seq_take (v := ?_) (a' := ?_) (by rfl) ?_ ?_ ?_
               rotate_left 2
               · (intro w hSw; obtain ⟨-, hSw⟩ := hSw; go_split_ands; go_simp; with_reducible rfl)
               · (simp only [Act.put, List.setIfInBounds_toArray, List.set_cons_zero, List.set_cons_succ]; with_reducible rfl))
            | (refine seq_skip (a' := ?_) (HSS.out _ hKc) (by rfl) ?_ ?_
               rotate_left
               · (simp only [Act.put, List.setIfInBounds_toArray, List.set_cons_zero, List.set_cons_succ]; with_reducible rfl)))
          refine seq_nil ?_
          go_wp2
          go_roundw
          case rel => exact ⟨k + 1, n, by omega, by go_num, xs, (some ⟨br, orr, none⟩), c, Lib.hid (by omega), Lib.hid ((HP.out.kept hKc).mono (fun _ h => h.elim))⟩
          case measure => simp [intOf]; omega
        · have HIN := Lib.hid hin
          have hN1 : n ≤ k + 1 := by have := hnk.out; omega
          clear hin
          go_wp2_with fail
          refine (my_getno oi HQ.out.my hoi (by rw [HL.out]; exact HIN.out)).mono ?_
          rintro e W2 ⟨rfl, hk2⟩
          have HP2 := Lib.hid (HQ.out.kept (hk2.alloc (.cells #[.int .i32 0, .int .i32 0, .int .i64 0, .int .i64 0, .int .i64 0, .int .i64 0, .bool false] 34)))
          have HN2 := Lib.hid (show NdAt (W2.alloc (.cells #[.int .i32 0, .int .i32 0, .int .i64 0, .int .i64 0, .int .i64 0, .int .i64 0, .bool false] 34)) W2.heap.size Nd.zero from NdAt.new W2 Nd.zero)
          obtain ⟨x0, x1, _, _⟩ := (HQ.out.kept hk2).box.cells
          obtain ⟨d0, d1, d2, d3, d4, d5, d6, d7, d8⟩ := (HB.out.keep hk2).cells
          dsimp only at d0 d1 d2 d3 d4 d5 d6 d7 d8
          have hlb : W1.heap.size < W2.heap.size := (HQ.out.kept hk2).box.lt
          have hlp : wr.heap.size < W2.heap.size := (HB.out.keep hk2).lt
          clear hk2 HQ HB c0 c1 c2 c3 c4 c5 c6 c7 c8
          go_wp2_with fail
          generalize W2.alloc (.cells #[.int .i32 0, .int .i32 0, .int .i64 0, .int .i64 0, .int .i64 0, .int .i64 0, .bool false] 34) = V2 at *
          refine (ps_rhas oi false HP2.out hoi (decide_eq_false HIN.out)).mono ?_
          rintro e W3 ⟨rfl, hk3⟩
          have HP3 := Lib.hid (HP2.out.kept hk3)
          obtain ⟨v0, v1, v2, v3, v4, v5, v6⟩ := (HN2.out.keep hk3).cells0
          clear x0 x1 d0 d1 d2 d3 d4 d5 d6 d7 d8 HP2 HN2 hk3
          go_wp2_with fail
          go_quiet (fail)
          have HP := Lib.hid ((HP3.out.kept ((Keep.refl W3).drewN nq)).mono (X' := fun _ => False) (fun _ h => h.elim))
          clear HP3 v0 v1 v2 v3 v4 v5 v6
          go_wp2_with fail
          generalize W3.drewN nq = V at *
          have HSS := Lib.hid (show ∀ w', Keep V w' → Keep V w' ∧ (w'.cell? ⟨W1.heap.size, 0, none⟩ = some (.slice A n c)) from fun w' h => ⟨h, (HP.out.box.block (h.block _ HP.out.box.lt)).cells.1⟩)
          have hKc := (Keep.refl V).drew
          have hwr : IntKind.i64.wrap ((lim : Int) - (n : Int)) = (lim : Int) - (n : Int) := by rw [IntKind.wrap_i64]; omega
          go_wp2_with fail
          refine seq_region (S := fun w' => Keep V w' ∧ (w'.cell? ⟨W1.heap.size, 0, none⟩ = some (.slice A n c))) [⟨0, 128, 5708990770823839524233143877797980545530986496⟩, ⟨1, 5708990770823839524233143877797980545530986496, 11417981541647679048466287755595961091061972992⟩, ⟨0, 512, 22835963083295358096932575511191922182123945984⟩, ⟨4, 22835963083295358096932575511191922182123945984, 45671926166590716193865151022383844364247891968⟩, ⟨8, 45671926166590716193865151022383844364247891968, 91343852333181432387730302044767688728495783936⟩, ⟨18, 102761833874829111436196589800363649819557756928, 182687704666362864775460604089535377456991567872⟩, ⟨34, 182687704666362864775460604089535377456991567872, 365375409332725729550921208179070754913983135744⟩, ⟨64, 365375409332725729550921208179070754913983135872, 730750818665451459101842416358141509827966271488⟩, ⟨192, 1096126227998177188652763624537212264741949407232, 1461501637330902918203684832716283019655932542976⟩, ⟨64, 365375409332725729550921208179070754913983135745, 2923003274661805836407369665432566039311865085952⟩, ⟨64, 365375409332725729550921208179070754913983136256, 5846006549323611672814739330865132078623730171904⟩, ⟨1088, 6211381958656337402365660539044202833537713307648, 11692013098647223345629478661730264157247460343808⟩, ⟨2112, 12057388507979949075180399869909334912161443479552, 23384026197294446691258957323460528314494920687616⟩, ⟨4672, 26672404881288978257217248197072165108720768909312, 46768052394588893382517914646921056628989841375232⟩, ⟨8512, 48594929441252522030272520687816410403559757053952, 93536104789177786765035829293842113257979682750464⟩, ⟨16448, 93901480198510512494586750502021184012893665886208, 187072209578355573530071658587684226515959365500928⟩] [(0, false), (2, false), (3, false), (4, false), (1, true), (5, false), (6, false), (7, false), (9, false), (10, false), (11, false), (12, false), (13, false), (8, true), (14, false), (15, false)] rfl (by kernel_rfl) (by kernel_rfl) (fun _ _ d _ _ h => by cases d <;> exact h) (HSS.out _ hKc) ?_
          simp only [rowsOf, rowAt, gslot, List.map_cons, List.map_nil, List.getElem?_toArray, List.getElem?_cons_zero, List.getElem?_cons_succ, Option.bind_some]
          repeat (first
            | (refine seq_take (v := ?_) (a' := ?_) (by rfl) ?_ ?_ ?_
               rotate_left 2
               · (intro w hSw; obtain ⟨-, hSw⟩ := hSw; go_split_ands; go_simp; with_reducible rfl)
               · (simp only [Act.put, List.setIfInBounds_toArray, List.set_cons_zero, List.set_cons_succ]; with_reducible rfl))
            | (refine seq_skip (a' := ?_) (HSS.out _ hKc) (by rfl) ?_ ?_
               rotate_left
               · (simp only [Act.put, List.setIfInBounds_toArray, List.set_cons_zero, List.set_cons_succ]; with_reducible rfl)))
          refine seq_callv (f := 16) (args := ?_) (v := ?_) (a' := ?_) (by rfl) (by rfl) (by rfl) Try.call16 ?_ ?_ ?_ ?_
          rotate_left 3
          · (go_simp; with_reducible rfl)
          · ((with_reducible refine (ps_len (HP.out.kept hKc)).mono ?_)
             rintro e w' ⟨rfl, rfl⟩
             refine ⟨?_, HSS.out _ hKc⟩
             with_reducible rfl)
          · (simp only [Act.put, List.setIfInBounds_toArray, List.set_cons_zero, List.set_cons_succ]; with_reducible rfl)
          clear hKc
          intro w2 hw2
          have hKc := hw2.1
          clear hw2
          repeat (first
            | (refine seq_take (v := ?_) (a' := ?_) (by rfl) ?_ ?_ ?_
               rotate_left 2
               · (intro w hSw; obtain ⟨-, hSw⟩ := hSw; go_split_ands; go_simp; with_reducible rfl)
               · (simp only [Act.put, List.setIfInBounds_toArray, List.set_cons_zero, List.set_cons_succ]; with_reducible rfl))
            | (refine seq_skip (a' := ?_) (HSS.out _ hKc) (by rfl) ?_ ?_
               rotate_left
               · (simp only [Act.put, List.setIfInBounds_toArray, List.set_cons_zero, List.set_cons_succ]; with_reducible rfl)))
          refine seq_callv (f := 17) (args := ?_) (v := ?_) (a' := ?_) (by rfl) (by rfl) (by rfl) Try.call17 ?_ ?_ ?_ ?_
          rotate_left 3
          · (go_simp; with_reducible rfl)
          · ((with_reducible refine (ps_room (HP.out.kept hKc)).mono ?_)
             rintro e w' ⟨rfl, hk⟩
             refine ⟨?_, HSS.out _ (hKc.trans hk)⟩
             with_reducible rfl)
          · (simp only [Act.put, List.setIfInBounds_toArray, List.set_cons_zero, List.set_cons_succ]; with_reducible rfl)
          clear hKc
          intro w2 hw2
          have hKc := hw2.1
          clear hw2
          repeat (first
            | (refine seq_take (v := ?_) (a' := ?_) (by rfl) ?_ ?_ ?_
               rotate_left 2
               · (intro w hSw; obtain ⟨-, hSw⟩ := hSw; go_split_ands; go_simp; with_reducible rfl)
               · (simp only [Act.put, List.setIfInBounds_toArray, List.set_cons_zero, List.set_cons_succ]; with_reducible rfl))
            | (refine seq_skip (a' := ?_) (HSS.out _ hKc) (by rfl) ?_ ?_
               rotate_left
               · (simp only [Act.put, List.setIfInBounds_toArray, List.set_cons_zero, List.set_cons_succ]; with_reducible rfl)))
          refine seq_nil ?_
          go_wp2
          go_roundw
          case rel => exact ⟨k + 1, n, by omega, by go_num, xs, A, c, Lib.hid (by omega), Lib.hid ((HP.out.kept hKc).mono (fun _ h => h.elim))⟩
          case measure => simp [intOf]; omega
      have t3 : (kd == 3) = false := by rw [beq_eq_false_iff_ne]; exact hk3
      clear hk3
      have HP := Lib.hid (HQ.out.mono (X' := fun _ => False) (fun _ h => h.elim))
      have hN1 : n ≤ k + 1 := by have := hnk.out; omega
      clear HQ HB
      go_wp2_with fail
      generalize wr.alloc (.cells #[.int .i64 kd, .int .i32 oi, .int .i32 nn.l, .int .i32 nn.r, .int .i64 nn.c, .int .i64 nn.s, .int .i64 nn.mn, .int .i64 nn.mx, .bool nn.k] 36) = V at *
      have HSS := Lib.hid (show ∀ w', Keep V w' → Keep V w' ∧ (w'.cell? ⟨W1.heap.size, 0, none⟩ = some (.slice A n c)) from fun w' h => ⟨h, (HP.out.box.block (h.block _ HP.out.box.lt)).cells.1⟩)
      have hKc := (Keep.refl V).drew
      have hwr : IntKind.i64.wrap ((lim : Int) - (n : Int)) = (lim : Int) - (n : Int) := by rw [IntKind.wrap_i64]; omega
      go_wp2_with fail
      refine seq_region (S := fun w' => Keep V w' ∧ (w'.cell? ⟨W1.heap.size, 0, none⟩ = some (.slice A n c))) [⟨0, 128, 5708990770823839524233143877797980545530986496⟩, ⟨1, 5708990770823839524233143877797980545530986496, 11417981541647679048466287755595961091061972992⟩, ⟨0, 512, 22835963083295358096932575511191922182123945984⟩, ⟨4, 22835963083295358096932575511191922182123945984, 45671926166590716193865151022383844364247891968⟩, ⟨8, 45671926166590716193865151022383844364247891968, 91343852333181432387730302044767688728495783936⟩, ⟨18, 102761833874829111436196589800363649819557756928, 182687704666362864775460604089535377456991567872⟩, ⟨34, 182687704666362864775460604089535377456991567872, 365375409332725729550921208179070754913983135744⟩, ⟨64, 365375409332725729550921208179070754913983135872, 730750818665451459101842416358141509827966271488⟩, ⟨192, 1096126227998177188652763624537212264741949407232, 1461501637330902918203684832716283019655932542976⟩, ⟨64, 365375409332725729550921208179070754913983135745, 2923003274661805836407369665432566039311865085952⟩, ⟨64, 365375409332725729550921208179070754913983136256, 5846006549323611672814739330865132078623730171904⟩, ⟨1088, 6211381958656337402365660539044202833537713307648, 11692013098647223345629478661730264157247460343808⟩, ⟨2112, 12057388507979949075180399869909334912161443479552, 23384026197294446691258957323460528314494920687616⟩, ⟨4672, 26672404881288978257217248197072165108720768909312, 46768052394588893382517914646921056628989841375232⟩, ⟨8512, 48594929441252522030272520687816410403559757053952, 93536104789177786765035829293842113257979682750464⟩, ⟨16448, 93901480198510512494586750502021184012893665886208, 187072209578355573530071658587684226515959365500928⟩] [(0, false), (2, false), (3, false), (4, false), (1, true), (5, false), (6, false), (7, false), (9, false), (10, false), (11, false), (12, false), (13, false), (8, true), (14, false), (15, false)] rfl (by kernel_rfl) (by kernel_rfl) (fun _ _ d _ _ h => by cases d <;> exact h) (HSS.out _ hKc) ?_
      simp only [rowsOf, rowAt, gslot, List.map_cons, List.map_nil, List.getElem?_toArray, List.getElem?_cons_zero, List.getElem?_cons_succ, Option.bind_some]
      repeat (first
        | (refine seq_take (v := ?_) (a' := ?_) (by rfl) ?_ ?_ ?_
           rotate_left 2
           · (intro w hSw; obtain ⟨-, hSw⟩ := hSw; go_split_ands; go_simp; with_reducible rfl)
           · (simp only [Act.put, List.setIfInBounds_toArray, List.set_cons_zero, List.set_cons_succ]; with_reducible rfl))
        | (refine seq_skip (a' := ?_) (HSS.out _ hKc) (by rfl) ?_ ?_
           rotate_left
           · (simp only [Act.put, List.setIfInBounds_toArray, List.set_cons_zero, List.set_cons_succ]; with_reducible rfl)))
      refine seq_callv (f := 16) (args := ?_) (v := ?_) (a' := ?_) (by rfl) (by rfl) (by rfl) Try.call16 ?_ ?_ ?_ ?_
      rotate_left 3
      · (go_simp; with_reducible rfl)
      · ((with_reducible refine (ps_len (HP.out.kept hKc)).mono ?_)
         rintro e w' ⟨rfl, rfl⟩
         refine ⟨?_, HSS.out _ hKc⟩
         with_reducible rfl)
      · (simp only [Act.put, List.setIfInBounds_toArray, List.set_cons_zero, List.set_cons_succ]; with_reducible rfl)
      clear hKc
      intro w2 hw2
      have hKc := hw2.1
      clear hw2
      repeat (first
        | (refine seq_take (v := ?_) (a' := ?_) (by rfl) ?_ ?_ ?_
           rotate_left 2
           · (intro w hSw; obtain ⟨-, hSw⟩ := hSw; go_split_ands; go_simp; with_reducible rfl)
           · (simp only [Act.put, List.setIfInBounds_toArray, List.set_cons_zero, List.set_cons_succ]; with_reducible rfl))
        | (refine seq_skip (a' := ?_) (HSS.out _ hKc) (by rfl) ?_ ?_
           rotate_left
           · (simp only [Act.put, List.setIfInBounds_toArray, List.set_cons_zero, List.set_cons_succ]; with_reducible rfl)))
      refine seq_callv (f := 17) (args := ?_) (v := ?_) (a' := ?_) (by rfl) (by rfl) (by rfl) Try.call17 ?_ ?_ ?_ ?_
      rotate_left 3
      · (go_simp; with_reducible rfl)
      · ((with_reducible refine (ps_room (HP.out.kept hKc)).mono ?_)
         rintro e w' ⟨rfl, hk⟩
         refine ⟨?_, HSS.out _ (hKc.trans hk)⟩
         with_reducible rfl)
      · (simp only [Act.put, List.setIfInBounds_toArray, List.set_cons_zero, List.set_cons_succ]; with_reducible rfl)
      clear hKc
      intro w2 hw2
      have hKc := hw2.1
      clear hw2
      repeat (first
        | (refine seq_take (v := ?_) (a' := ?_) (by rfl) ?_ ?_ ?_
           rotate_left 2
           · (intro w hSw; obtain ⟨-, hSw⟩ := hSw; go_split_ands; go_simp; with_reducible rfl)
           · (simp only [Act.put, List.setIfInBounds_toArray, List.set_cons_zero, List.set_cons_succ]; with_reducible rfl))
        | (refine seq_skip (a' := ?_) (HSS.out _ hKc) (by rfl) ?_ ?_
           rotate_left
           · (simp only [Act.put, List.setIfInBounds_toArray, List.set_cons_zero, List.set_cons_succ]; with_reducible rfl)))
      refine seq_nil ?_
      go_wp2
      go_roundw
      case rel => exact ⟨k + 1, n, by omega, by go_num, xs, A, c, Lib.hid (by omega), Lib.hid ((HP.out.kept hKc).mono (fun _ h => h.elim))⟩
      case measure => simp [intOf]; omega
    · obtain rfl : k = len := by omega
      have HL := Lib.hid hP.out.len
      go_wp2_with fail
      refine (my_nodes 1000 xs hP.out.my (by decide) (List.take_of_length_le (by rw [HL.out]; omega))).mono ?_
      rintro e W2 ⟨A2, c2, rfl, hrow2, hk2⟩
      have HP2 := Lib.hid (hP.out.kept hk2)
      have HR2 := Lib.hid (NdS.of_row hrow2)
      clear hrow2 hk2 hP
      rw [HL.out]
      go_wp2_with fail
      refine (my_nodes M (xs.take M) HP2.out.my (by omega) rfl).mono ?_
      rintro e W3 ⟨A3, c3, rfl, hrow3, hk3⟩
      have HP3 := Lib.hid (HP2.out.kept hk3)
      have HR3 := Lib.hid (HR2.out.keep hk3)
      obtain ⟨x0, x1, _, _⟩ := HP3.out.box.cells
      clear hrow3 hk3 HP2 HR2
      rw [List.length_take, HL.out]
      by_cases hMn : M ≤ n
      · rw [Nat.min_eq_left hMn]
        have hMi : (M : Int) ≤ (n : Int) := by omega
        go_wp2_with fail
        have HSW := Lib.hid (HK0.out.trans HP3.out.keepW)
        clear x0 x1
        go_loopw [207] (fun ix wr => ∃ j : Nat, j ≤ n ∧ ix = .int .i64 j ∧ Keep W3 wr) (fun ix _ => n - (intOf ix).toNat)
        case atStart => exact ⟨0, Nat.zero_le _, rfl, Keep.refl _⟩
        case round =>
          obtain ⟨j, hj, rfl, hK2⟩ := hrel
          by_cases hlt2 : j < n
          · obtain ⟨z, hz⟩ : ∃ z, xs[j]? = some z := ⟨_, List.getElem?_eq_getElem (by rw [HL.out]; exact hlt2)⟩
            obtain ⟨bn, on, rfl, _, hbn, gn⟩ := (HR3.out.keep hK2) j z hz
            have hP4 := HP3.out.kept hK2
            obtain ⟨br, orr, rfl, _, hbr, gr⟩ := hP4.rs.1 j z hz
            have HSS := Lib.hid (show ∀ w', Keep wr w' → Keep wr w' ∧ ((w'.cell? ⟨W1.heap.size, 0, none⟩ = some (.slice (some ⟨br, orr, none⟩) n c)) ∧ ((w'.cell? ⟨bn, on + j * 7, none⟩ = some (.int .i32 z.l) ∧ w'.cell? ⟨bn, on + j * 7 + 1, none⟩ = some (.int .i32 z.r) ∧ w'.cell? ⟨bn, on + j * 7 + 2, none⟩ = some (.int .i64 z.c) ∧ w'.cell? ⟨bn, on + j * 7 + 3, none⟩ = some (.int .i64 z.s) ∧ w'.cell? ⟨bn, on + j * 7 + 4, none⟩ = some (.int .i64 z.mn) ∧ w'.cell? ⟨bn, on + j * 7 + 5, none⟩ = some (.int .i64 z.mx) ∧ w'.cell? ⟨bn, on + j * 7 + 6, none⟩ = some (.bool z.k)) ∧ (w'.cell? ⟨br, orr + j * 7, none⟩ = some (.int .i32 z.l) ∧ w'.cell? ⟨br, orr + j * 7 + 1, none⟩ = some (.int .i32 z.r) ∧ w'.cell? ⟨br, orr + j * 7 + 2, none⟩ = some (.int .i64 z.c) ∧ w'.cell? ⟨br, orr + j * 7 + 3, none⟩ = some (.int .i64 z.s) ∧ w'.cell? ⟨br, orr + j * 7 + 4, none⟩ = some (.int .i64 z.mn) ∧ w'.cell? ⟨br, orr + j * 7 + 5, none⟩ = some (.int .i64 z.mx) ∧ w'.cell? ⟨br, orr + j * 7 + 6, none⟩ = some (.bool z.k)))) from fun w' h => ⟨h, (hP4.box.block (h.block _ hP4.box.lt)).cells.1, gn.block (h.block _ hbn), gr.block (h.block _ hbr)⟩)
            clear hz gn gr hP4
            have hki : (j : Int) < (n : Int) := by omega
            have q1 := equal_rn z
            have hKc := (Keep.refl wr).drew
            go_wp2_with fail
            refine seq_region (S := fun w' => Keep wr w' ∧ ((w'.cell? ⟨W1.heap.size, 0, none⟩ = some (.slice (some ⟨br, orr, none⟩) n c)) ∧ ((w'.cell? ⟨bn, on + j * 7, none⟩ = some (.int .i32 z.l) ∧ w'.cell? ⟨bn, on + j * 7 + 1, none⟩ = some (.int .i32 z.r) ∧ w'.cell? ⟨bn, on + j * 7 + 2, none⟩ = some (.int .i64 z.c) ∧ w'.cell? ⟨bn, on + j * 7 + 3, none⟩ = some (.int .i64 z.s) ∧ w'.cell? ⟨bn, on + j * 7 + 4, none⟩ = some (.int .i64 z.mn) ∧ w'.cell? ⟨bn, on + j * 7 + 5, none⟩ = some (.int .i64 z.mx) ∧ w'.cell? ⟨bn, on + j * 7 + 6, none⟩ = some (.bool z.k)) ∧ (w'.cell? ⟨br, orr + j * 7, none⟩ = some (.int .i32 z.l) ∧ w'.cell? ⟨br, orr + j * 7 + 1, none⟩ = some (.int .i32 z.r) ∧ w'.cell? ⟨br, orr + j * 7 + 2, none⟩ = some (.int .i64 z.c) ∧ w'.cell? ⟨br, orr + j * 7 + 3, none⟩ = some (.int .i64 z.s) ∧ w'.cell? ⟨br, orr + j * 7 + 4, none⟩ = some (.int .i64 z.mn) ∧ w'.cell? ⟨br, orr + j * 7 + 5, none⟩ = some (.int .i64 z.mx) ∧ w'.cell? ⟨br, orr + j * 7 + 6, none⟩ = some (.bool z.k))))) [⟨0, 8388608, 1645504557321206042154969182557350504982735865633579863348609024⟩, ⟨0, 134217728, 3291009114642412084309938365114701009965471731267159726697218048⟩, ⟨3, 4936513671963618126464907547672051514948207596900739590045827072, 6582018229284824168619876730229402019930943462534319453394436096⟩, ⟨4, 6582018229284824168619876730229402019930943462534319453394436096, 13164036458569648337239753460458804039861886925068638906788872192⟩, ⟨0, 512, 26328072917139296674479506920917608079723773850137277813577744384⟩, ⟨16, 26328072917139296674479506920917608079723773850137277813577744384, 52656145834278593348959013841835216159447547700274555627155488768⟩, ⟨0, 134217728, 105312291668557186697918027683670432318895095400549111254310977536⟩, ⟨96, 157968437502835780046877041525505648478342643100823666881466466304, 210624583337114373395836055367340864637790190801098222508621955072⟩, ⟨128, 210624583337114373395836055367340864637790190801098222508621955072, 421249166674228746791672110734681729275580381602196445017243910144⟩, ⟨264, 434413203132798395128911864195140533315442268527265083924032782336, 842498333348457493583344221469363458551160763204392890034487820288⟩] [(0, false), (1, false), (2, false), (3, false), (4, false), (5, false), (6, false), (7, false), (8, false), (9, false)] rfl (by kernel_rfl) (by kernel_rfl) (fun _ _ d _ _ h => by cases d <;> exact h) (HSS.out _ hKc) ?_
            simp only [rowsOf, rowAt, gslot, List.map_cons, List.map_nil, List.getElem?_toArray, List.getElem?_cons_zero, List.getElem?_cons_succ]
            repeat (first
              | (refine seq_take (v := ?_) (a' := ?_) (by rfl) ?_ ?_ ?_
                 rotate_left 2
                 · (intro w hSw; obtain ⟨-, hSw⟩ := hSw; go_split_ands; go_simp; with_reducible rfl)
                 · (simp only [Act.put, List.setIfInBounds_toArray, List.set_cons_zero, List.set_cons_succ]; with_reducible rfl))
              | (refine seq_skip (a' := ?_) (HSS.out _ hKc) (by rfl) ?_ ?_
                 rotate_left
                 · (simp only [Act.put, List.setIfInBounds_toArray, List.set_cons_zero, List.set_cons_succ]; with_reducible rfl)))
            refine seq_nil ?_
            go_wp2
            go_roundw
            case rel => exact ⟨j + 1, by omega, by go_num, hK2.trans hKc⟩
            case measure => simp [intOf]; omega
          · go_wp2
            go_ret
            exact ⟨rfl, HSW.out.trans hK2⟩
      · rw [Nat.min_eq_right (by omega)]
        have hMi : (n : Int) ≤ (M : Int) := by omega
        have hMj : ¬ (M : Int) ≤ (n : Int) := by omega
        go_wp2_with fail
        have HSW := Lib.hid (HK0.out.trans HP3.out.keepW)
        clear x0 x1
        go_loopw [207] (fun ix wr => ∃ j : Nat, j ≤ n ∧ ix = .int .i64 j ∧ Keep W3 wr) (fun ix _ => n - (intOf ix).toNat)
        case atStart => exact ⟨0, Nat.zero_le _, rfl, Keep.refl _⟩
        case round =>
          obtain ⟨j, hj, rfl, hK2⟩ := hrel
          by_cases hlt2 : j < n
          · obtain ⟨z, hz⟩ : ∃ z, xs[j]? = some z := ⟨_, List.getElem?_eq_getElem (by rw [HL.out]; exact hlt2)⟩
            obtain ⟨bn, on, rfl, _, hbn, gn⟩ := (HR3.out.keep hK2) j z hz
            have hP4 := HP3.out.kept hK2
            obtain ⟨br, orr, rfl, _, hbr, gr⟩ := hP4.rs.1 j z hz
            have HSS := Lib.hid (show ∀ w', Keep wr w' → Keep wr w' ∧ ((w'.cell? ⟨W1.heap.size, 0, none⟩ = some (.slice (some ⟨br, orr, none⟩) n c)) ∧ ((w'.cell? ⟨bn, on + j * 7, none⟩ = some (.int .i32 z.l) ∧ w'.cell? ⟨bn, on + j * 7 + 1, none⟩ = some (.int .i32 z.r) ∧ w'.cell? ⟨bn, on + j * 7 + 2, none⟩ = some (.int .i64 z.c) ∧ w'.cell? ⟨bn, on + j * 7 + 3, none⟩ = some (.int .i64 z.s) ∧ w'.cell? ⟨bn, on + j * 7 + 4, none⟩ = some (.int .i64 z.mn) ∧ w'.cell? ⟨bn, on + j * 7 + 5, none⟩ = some (.int .i64 z.mx) ∧ w'.cell? ⟨bn, on + j * 7 + 6, none⟩ = some (.bool z.k)) ∧ (w'.cell? ⟨br, orr + j * 7, none⟩ = some (.int .i32 z.l) ∧ w'.cell? ⟨br, orr + j * 7 + 1, none⟩ = some (.int .i32 z.r) ∧ w'.cell? ⟨br, orr + j * 7 + 2, none⟩ = some (.int .i64 z.c) ∧ w'.cell? ⟨br, orr + j * 7 + 3, none⟩ = some (.int .i64 z.s) ∧ w'.cell? ⟨br, orr + j * 7 + 4, none⟩ = some (.int .i64 z.mn) ∧ w'.cell? ⟨br, orr + j * 7 + 5, none⟩ = some (.int .i64 z.mx) ∧ w'.cell? ⟨br, orr + j * 7 + 6, none⟩ = some (.bool z.k)))) from fun w' h => ⟨h, (hP4.box.block (h.block _ hP4.box.lt)).cells.1, gn.block (h.block _ hbn), gr.block (h.block _ hbr)⟩)
            clear hz gn gr hP4
            have hki : (j : Int) < (n : Int) := by omega
            have q1 := equal_rn z
            have hKc := (Keep.refl wr).drew
            go_wp2_with fail
            refine seq_region (S := fun w' => Keep wr w' ∧ ((w'.cell? ⟨W1.heap.size, 0, none⟩ = some (.slice (some ⟨br, orr, none⟩) n c)) ∧ ((w'.cell? ⟨bn, on + j * 7, none⟩ = some (.int .i32 z.l) ∧ w'.cell? ⟨bn, on + j * 7 + 1, none⟩ = some (.int .i32 z.r) ∧ w'.cell? ⟨bn, on + j * 7 + 2, none⟩ = some (.int .i64 z.c) ∧ w'.cell? ⟨bn, on + j * 7 + 3, none⟩ = some (.int .i64 z.s) ∧ w'.cell? ⟨bn, on + j * 7 + 4, none⟩ = some (.int .i64 z.mn) ∧ w'.cell? ⟨bn, on + j * 7 + 5, none⟩ = some (.int .i64 z.mx) ∧ w'.cell? ⟨bn, on + j * 7 + 6, none⟩ = some (.bool z.k)) ∧ (w'.cell? ⟨br, orr + j * 7, none⟩ = some (.int .i32 z.l) ∧ w'.cell? ⟨br, orr + j * 7 + 1, none⟩ = some (.int .i32 z.r) ∧ w'.cell? ⟨br, orr + j * 7 + 2, none⟩ = some (.int .i64 z.c) ∧ w'.cell? ⟨br, orr + j * 7 + 3, none⟩ = some (.int .i64 z.s) ∧ w'.cell? ⟨br, orr + j * 7 + 4, none⟩ = some (.int .i64 z.mn) ∧ w'.cell? ⟨br, orr + j * 7 + 5, none⟩ = some (.int .i64 z.mx) ∧ w'.cell? ⟨br, orr + j * 7 + 6, none⟩ = some (.bool z.k))))) [⟨0, 8388608, 1645504557321206042154969182557350504982735865633579863348609024⟩, ⟨0, 134217728, 3291009114642412084309938365114701009965471731267159726697218048⟩, ⟨3, 4936513671963618126464907547672051514948207596900739590045827072, 6582018229284824168619876730229402019930943462534319453394436096⟩, ⟨4, 6582018229284824168619876730229402019930943462534319453394436096, 13164036458569648337239753460458804039861886925068638906788872192⟩, ⟨0, 512, 26328072917139296674479506920917608079723773850137277813577744384⟩, ⟨16, 26328072917139296674479506920917608079723773850137277813577744384, 52656145834278593348959013841835216159447547700274555627155488768⟩, ⟨0, 134217728, 105312291668557186697918027683670432318895095400549111254310977536⟩, ⟨96, 157968437502835780046877041525505648478342643100823666881466466304, 210624583337114373395836055367340864637790190801098222508621955072⟩, ⟨128, 210624583337114373395836055367340864637790190801098222508621955072, 421249166674228746791672110734681729275580381602196445017243910144⟩, ⟨264, 434413203132798395128911864195140533315442268527265083924032782336, 842498333348457493583344221469363458551160763204392890034487820288⟩] [(0, false), (1, false), (2, false), (3, false), (4, false), (5, false), (6, false), (7, false), (8, false), (9, false)] rfl (by kernel_rfl) (by kernel_rfl) (fun _ _ d _ _ h => by cases d <;> exact h) (HSS.out _ hKc) ?_
            simp only [rowsOf, rowAt, gslot, List.map_cons, List.map_nil, List.getElem?_toArray, List.getElem?_cons_zero, List.getElem?_cons_succ]
            repeat (first
              | (refine seq_take (v := ?_) (a' := ?_) (by rfl) ?_ ?_ ?_
                 rotate_left 2
                 · (intro w hSw; obtain ⟨-, hSw⟩ := hSw; go_split_ands; go_simp; with_reducible rfl)
                 · (simp only [Act.put, List.setIfInBounds_toArray, List.set_cons_zero, List.set_cons_succ]; with_reducible rfl))
              | (refine seq_skip (a' := ?_) (HSS.out _ hKc) (by rfl) ?_ ?_
                 rotate_left
                 · (simp only [Act.put, List.setIfInBounds_toArray, List.set_cons_zero, List.set_cons_succ]; with_reducible rfl)))
            refine seq_nil ?_
            go_wp2
            go_roundw
            case rel => exact ⟨j + 1, by omega, by go_num, hK2.trans hKc⟩
            case measure => simp [intOf]; omega
          · go_wp2
            go_ret
            exact ⟨rfl, HSW.out.trans hK2⟩
theorem ArenaPlays_std (a0 : Int) (_ : (Lit.int .i64 a0).wf = true) (B : Option Addr) (len cap : Nat) (os : List OpV) (a2 : Int) (_ : (Lit.int .i64 a2).wf = true) (w : World) (row : OpArg w B len os) :
    Calls Try.prog 3 #[.int .i64 a0, .slice B len cap, .int .i64 a2] w fun e w' => e = .returned (.bool true) ∧ Below w.heap.size w w' := plays_law a0 B len cap os a2 w row
end Go.Proofs.Ytdnhgfbchddabab
