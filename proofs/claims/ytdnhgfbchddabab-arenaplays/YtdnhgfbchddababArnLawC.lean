/- ArenaSwaps: what two nodes have is changed by setting both; set back all is as it was. -/
import Derived.Test.YtdnhgfbchddababArnLawB
import Derived.Test.YtdnhgfbchddababSeq
namespace Go.Proofs.Ytdnhgfbchddabab
open Go.RowKit

section
variable {P : Program} {Q : Exit → Act → World → Prop} {S R : World → Prop}
/-- A call that is wanted: its contract says what it answers, that S holds behind it, and what else. -/
theorem seq_callR {o : Oper} {gs : Option (Option Tmp × Bool)} {rest : List (Option RowR)} {a a' : Act} {w : World} {x : Operand} {xs : Array Operand} {ts : Array TypeId} {f : FuncId} {args : Array Value} {v : Value} (hw : wantR gs a.tmps = true)
    (ho : o.op = .call { callee := .value x, args := xs, argTypes := ts }) (hx : a.eval x = .func (.func f) #[] #[]) (hf : ∀ (args : Array Value) (w : World), (callFunc f args).run P w = .ok (.enter f args) w) (hargs : xs.map a.eval = args)
    (hc : Calls P f args w fun e w' => e = .returned v ∧ S w' ∧ R w') (ha : a.put o.dst v = a') (h : ∀ w', S w' → R w' → SeqR P Q S rest a' w') :
    SeqR P Q S (some ⟨o, gs, true⟩ :: rest) a w := by
  subst ha
  refine .inl ⟨rfl, fun K hK => ?_⟩
  simp only [hw, if_true]
  unfold Oper.wp
  rw [run_callv ho hx hf hargs]
  refine Calls.mono hc fun e w' ⟨he, hS, hR⟩ => ?_
  subst he
  exact hK.out _ _ hS (h w' hS hR)
end
theorem and_255 (m : Int) : bits BinOp.and IntKind.i64 m 255 = (((m % 256).toNat : Nat) : Int) := by
  have e1 : (BitVec.ofInt 64 m &&& BitVec.ofInt 64 255).toNat = (m % 18446744073709551616).toNat % 2 ^ 8 := by
    rw [BitVec.toNat_and, show (BitVec.ofInt 64 255) = BitVec.ofNat 64 255 from rfl, BitVec.toNat_ofNat, BitVec.toNat_ofInt, show 255 % 2 ^ 64 = 2 ^ 8 - 1 from rfl, Nat.and_two_pow_sub_one_eq_mod]
    rfl
  show IntKind.i64.wrap ((BitVec.ofInt 64 m &&& BitVec.ofInt 64 255).toNat : Int) = _
  rw [e1]
  simp only [IntKind.wrap, IntKind.bits, IntKind.signed]
  simp
  omega
theorem row_base {w : World} {base n c : Nat} {A : Option Addr} {zs : List Value} (h : w.ownsRow base 34 7 (.slice A n c) n zs) : ∀ b off, A = some ⟨b, off, none⟩ → base ≤ b ∧ b < w.heap.size := fun b off e => by
  subst e
  rcases h.2 with ⟨e, h0⟩ | ⟨g, cap, cur, e, _⟩
  · simp at e
  · have e2 : b = g := by
      simp at e
      exact e.1.1
    subst e2
    cases e
    exact h.lt b rfl
theorem swap_facts (zs : List Nd) (p q : Nat) (x y : Nd) (hx : zs[p]? = some x) (hy : zs[q]? = some y) :
    ((zs.set p y).set q x)[p]? = some y ∧ ((zs.set p y).set q x)[q]? = some x ∧ (((zs.set p y).set q x).set p x).set q y = zs := by
  have hp := (List.getElem?_eq_some_iff.1 hx).1
  have hq := (List.getElem?_eq_some_iff.1 hy).1
  refine ⟨?_, ?_, ?_⟩
  · by_cases e : q = p
    · subst e
      rw [List.getElem?_set_self (by simpa using hp), ← hx, hy]
    · rw [List.getElem?_set_ne e, List.getElem?_set_self hp]
  · rw [List.getElem?_set_self (by simpa using hq)]
  · apply List.ext_getElem?
    intro i
    by_cases e1 : q = i
    · subst e1
      rw [List.getElem?_set_self (by simpa using hq), hy]
    · rw [List.getElem?_set_ne e1]
      by_cases e2 : p = i
      · subst e2
        rw [List.getElem?_set_self (by simpa using hp), hx]
      · rw [List.getElem?_set_ne e2, List.getElem?_set_ne e1, List.getElem?_set_ne e2]

set_option maxRecDepth 100000 in
set_option maxHeartbeats 8000000 in
theorem swaps_law (A : Option Addr) (len cap : Nat) (zs : List Nd) (a1 a2 : Int) (w : World) (row : NdArg w A len zs) :
    Calls Try.prog 6 #[.slice A len cap, .int .i64 a1, .int .i64 a2] w fun e w' => e = .returned (.bool true) ∧ Keep w w' := by
  obtain ⟨hml, hzl, hS⟩ := row
  unfold maxLen at hml
  have HZL := Lib.hid hzl
  have HS := Lib.hid hS
  clear hzl hS
  have hb1 := and_255 a1
  have hb2 := and_255 a2
  have hP : (a1 % 256).toNat < 256 := by omega
  have hQ : (a2 % 256).toNat < 256 := by omega
  generalize (a1 % 256).toNat = P at *
  generalize (a2 % 256).toNat = Q at *
  go_enter Try.func6, Try.ntmps6
  go_wp2_with fail
  refine (alive_any w).mono ?_
  rintro e W0 ⟨rfl, hk0⟩
  have HK0 := Lib.hid hk0
  clear hk0
  by_cases h1 : len = 0
  · subst h1
    go_wp2
    go_ret
    exact ⟨rfl, HK0.out⟩
  have hpos : 0 < len := by omega
  have hn0 : decide (len = 0) = false := decide_eq_false h1
  have hn1 : ((len : Int) == 0) = false := by rw [beq_eq_false_iff_ne]; omega
  clear h1
  by_cases h3 : 60 < len
  · go_wp2
    go_ret
    exact ⟨rfl, HK0.out⟩
  have h3' : len ≤ 60 := by omega
  clear h3
  go_wp2_with fail
  refine (my_new len W0 (by omega) (by omega)).mono ?_
  rintro e W1 ⟨rfl, hM1⟩
  have HM1 := Lib.hid hM1
  clear hM1
  go_wp2_with fail
  go_loopw [46] (fun ix wr => ∃ k : Nat, k ≤ len ∧ ix = .int .i64 k ∧ Hid (My W0 W0.heap.size len (zs.take k) (fun _ => False) wr)) (fun ix _ => len - (intOf ix).toNat)
  case atStart => exact ⟨0, Nat.zero_le _, rfl, HM1⟩
  case round =>
    obtain ⟨k, hk, rfl, hM⟩ := hrel
    clear HM1
    by_cases hlt : k < len
    · obtain ⟨z, hzk⟩ : ∃ z, zs[k]? = some z := ⟨_, List.getElem?_eq_getElem (by rw [HZL.out]; exact hlt)⟩
      obtain ⟨bz, oz, rfl, _, _, c0, c1, c2, c3, c4, c5, c6⟩ := (HS.out.keep (HK0.out.trans hM.out.keepW)) k z hzk
      have hki : (k : Int) < (len : Int) := by omega
      have HZK := Lib.hid hzk
      clear hzk
      have HNz := Lib.hid (NdAt.new wr z)
      have HMz := Lib.hid ((hM.out.keep ((Keep.refl wr).alloc (.cells #[.int .i32 z.l, .int .i32 z.r, .int .i64 z.c, .int .i64 z.s, .int .i64 z.mn, .int .i64 z.mx, .bool z.k] 34))).mono (Pr' := fun j => j = wr.heap.size) (fun j e => .inr (by subst e; simp)))
      clear hM
      have hxl : (zs.take k).length = k := by rw [List.length_take, HZL.out]; omega
      have HXL := Lib.hid hxl
      have HTS := Lib.hid (take_snoc zs k z HZK.out)
      generalize zs.take k = xs at *
      clear hxl
      go_wp2_with fail
      generalize wr.alloc (.cells #[.int .i32 z.l, .int .i32 z.r, .int .i64 z.c, .int .i64 z.s, .int .i64 z.mn, .int .i64 z.mx, .bool z.k] 34) = wz at *
      refine (k_alloc k HXL.out HMz.out hlt).mono ?_
      rintro e W2 ⟨rfl, h2, ho2⟩
      have hN2 := HNz.out.only ho2 (fun h => h rfl)
      obtain ⟨d0, d1, d2, d3, d4, d5, d6⟩ := hN2.cells
      have H2 := Lib.hid h2
      clear h2 ho2 hN2 HMz HNz
      go_wp2_with fail
      refine (k_set k z HXL.out H2.out).mono ?_
      rintro e W3 ⟨rfl, h3, ho3⟩
      have H3 := Lib.hid h3.none
      clear h3 ho3 H2
      go_wp2
      go_roundw
      case rel => exact ⟨k + 1, by omega, by go_num, by rw [← HTS.out]; exact H3⟩
      case measure => simp [intOf]; omega
    · obtain rfl : k = len := by omega
      have htk : zs.take k = zs := List.take_of_length_le (by rw [HZL.out]; omega)
      rw [htk] at hM
      clear htk hlt hk
      go_wp2_with fail
      refine (my_nodes 1000 zs hM.out (by decide) (List.take_of_length_le (by rw [HZL.out]; omega))).mono ?_
      rintro e W3 ⟨A3, c3, rfl, hrow3, hk3⟩
      have HMr := hM
      have HK3 := Lib.hid hk3
      have HR3 := Lib.hid (NdS.of_row hrow3)
      have HB3 := Lib.hid (row_base hrow3)
      clear hrow3 hk3 hM
      rw [HZL.out]
      go_wp2_with fail
      have hne : ¬ k = 0 := by omega
      obtain ⟨p, hp, htp⟩ : ∃ p : Nat, p < k ∧ ((P : Int)).tmod (k : Int) = (p : Int) := ⟨P % k, Nat.mod_lt _ (by omega), by rw [Int.tmod_eq_emod_of_nonneg (by omega)]; omega⟩
      obtain ⟨q, hq, htq⟩ : ∃ q : Nat, q < k ∧ ((Q : Int)).tmod (k : Int) = (q : Int) := ⟨Q % k, Nat.mod_lt _ (by omega), by rw [Int.tmod_eq_emod_of_nonneg (by omega)]; omega⟩
      have wp1 : IntKind.i64.wrap (1 + (p : Int)) = (p : Int) + 1 := by rw [IntKind.wrap_i64]; omega
      have wp2 : IntKind.i32.wrap ((p : Int) + 1) = (p : Int) + 1 := by rw [IntKind.wrap_i32]; omega
      have wq1 : IntKind.i64.wrap (1 + (q : Int)) = (q : Int) + 1 := by rw [IntKind.wrap_i64]; omega
      have wq2 : IntKind.i32.wrap ((q : Int) + 1) = (q : Int) + 1 := by rw [IntKind.wrap_i32]; omega
      have wp3 : IntKind.i32.wrap (1 + (p : Int)) = (p : Int) + 1 := by rw [IntKind.wrap_i32]; omega
      have wq3 : IntKind.i32.wrap (1 + (q : Int)) = (q : Int) + 1 := by rw [IntKind.wrap_i32]; omega
      refine seq_region (S := fun w' => Keep W3 w') [⟨0, 2, 36893488147419103232⟩, ⟨1, 36893488147419103232, 73786976294838206464⟩, ⟨0, 1, 147573952589676412928⟩, ⟨4, 147573952589676412928, 295147905179352825856⟩, ⟨10, 368934881474191032320, 590295810358705651712⟩, ⟨16, 590295810358705651712, 1180591620717411303424⟩, ⟨32, 1180591620717411303424, 2361183241434822606848⟩, ⟨0, 4, 4722366482869645213696⟩, ⟨128, 4722366482869645213696, 9444732965739290427392⟩, ⟨0, 1, 18889465931478580854784⟩, ⟨512, 18889465931478580854784, 37778931862957161709568⟩, ⟨1280, 47223664828696452136960, 75557863725914323419136⟩, ⟨2048, 75557863725914323419136, 151115727451828646838272⟩, ⟨4096, 151115727451828646838272, 302231454903657293676544⟩, ⟨127, 2361183241434822606848, 32768⟩, ⟨32767, 302231454903657293676544, 65536⟩] [(0, false), (1, false), (2, false), (3, false), (4, false), (5, false), (6, false), (7, false), (8, false), (9, false), (10, false), (11, false), (12, false), (13, false), (14, false), (15, false)] rfl (by kernel_rfl) (by kernel_rfl) (fun _ _ d _ _ h => by cases d <;> exact h) (Keep.refl W3).drew ?_
      simp only [rowsOf, rowAt, gslot, List.map_cons, List.map_nil, List.getElem?_toArray, List.getElem?_cons_zero, List.getElem?_cons_succ]
      repeat (first
        | (refine seq_take (v := ?_) (a' := ?_) (by rfl) ?_ ?_ ?_
           rotate_left 2
           · (intro w hSw; clear hSw; go_simp; with_reducible rfl)
           · (simp only [Act.put, List.setIfInBounds_toArray, List.set_cons_zero, List.set_cons_succ]; with_reducible rfl)))
      refine seq_nil ?_
      have HK4 := Lib.hid (HK3.out.trans (Keep.refl W3).drew)
      obtain ⟨x, hx⟩ : ∃ x, zs[p]? = some x := ⟨_, List.getElem?_eq_getElem (by rw [HZL.out]; exact hp)⟩
      obtain ⟨y, hy⟩ : ∃ y, zs[q]? = some y := ⟨_, List.getElem?_eq_getElem (by rw [HZL.out]; exact hq)⟩
      have HX := Lib.hid hx
      have HY := Lib.hid hy
      clear hx hy wp1 wp2 wp3 wq1 wq2 wq3 htp htq
      go_wp2_with fail
      refine (my_get p x (HMr.out.kept HK4.out) HX.out).mono ?_
      rintro e W5 ⟨rfl, h5⟩
      have HN5 := Lib.hid (NdAt.new W5 x)
      have HK5 := Lib.hid (h5.alloc (.cells #[.int .i32 x.l, .int .i32 x.r, .int .i64 x.c, .int .i64 x.s, .int .i64 x.mn, .int .i64 x.mx, .bool x.k] 34))
      have HL5 := Lib.hid (Nat.le_trans HK4.out.size h5.size)
      clear h5
      go_wp2_with fail
      generalize hV5 : W5.alloc (.cells #[.int .i32 x.l, .int .i32 x.r, .int .i64 x.c, .int .i64 x.s, .int .i64 x.mn, .int .i64 x.mx, .bool x.k] 34) = V5 at *
      clear hV5
      refine (my_get q y (HMr.out.kept (HK4.out.trans HK5.out)) HY.out).mono ?_
      rintro e W6 ⟨rfl, h6⟩
      have HN6 := Lib.hid (NdAt.new W6 y)
      have HX6 := Lib.hid (HN5.out.keep (h6.alloc (.cells #[.int .i32 y.l, .int .i32 y.r, .int .i64 y.c, .int .i64 y.s, .int .i64 y.mn, .int .i64 y.mx, .bool y.k] 34)))
      have HK6 := Lib.hid ((HK4.out.trans HK5.out).trans (h6.alloc (.cells #[.int .i32 y.l, .int .i32 y.r, .int .i64 y.c, .int .i64 y.s, .int .i64 y.mn, .int .i64 y.mx, .bool y.k] 34)))
      have HKV := Lib.hid ((((Keep.refl W3).drew).trans HK5.out).trans (h6.alloc (.cells #[.int .i32 y.l, .int .i32 y.r, .int .i64 y.c, .int .i64 y.s, .int .i64 y.mn, .int .i64 y.mx, .bool y.k] 34)))
      have HL6 := Lib.hid (Nat.le_trans (HK4.out.trans HK5.out).size h6.size)
      clear h6
      go_wp2_with fail
      generalize W6.alloc (.cells #[.int .i32 y.l, .int .i32 y.r, .int .i64 y.c, .int .i64 y.s, .int .i64 y.mn, .int .i64 y.mx, .bool y.k] 34) = V6 at *
      obtain ⟨Pr, hPr⟩ : ∃ Pr : Nat → Prop, Pr = fun j => wr.heap.size ≤ j ∧ j < V6.heap.size := ⟨_, rfl⟩
      have HM6 := Lib.hid (show My W0 W0.heap.size k zs Pr V6 from (HMr.out.keep HK6.out).mono (fun j h => by rw [hPr] at h; exact .inr h))
      have HPx := Lib.hid (show Pr W5.heap.size from by rw [hPr]; exact ⟨HL5.out, HX6.out.lt⟩)
      have HPy := Lib.hid (show Pr W6.heap.size from by rw [hPr]; exact ⟨HL6.out, HN6.out.lt⟩)
      have HP3 := Lib.hid (show ∀ b off, A3 = some ⟨b, off, none⟩ → Pr b from fun b off e => by
        have h1 := HB3.out b off e
        have h2 := HKV.out.size
        rw [hPr]
        exact ⟨h1.1, by omega⟩)
      have HR6 := Lib.hid (HR3.out.keep HKV.out)
      clear hPr
      obtain ⟨bz, oz, rfl, _, _, gx⟩ := (HS.out.keep HK0.out) p x HX.out
      obtain ⟨_, _, e', _, hbz, gy⟩ := (HS.out.keep HK0.out) q y HY.out
      cases e'
      have HGX := Lib.hid gx
      have HGY := Lib.hid gy
      have HBZ := Lib.hid hbz
      clear gx gy hbz
      have HSS := Lib.hid (show ∀ w', Only (fun j => ¬ Pr j) V6 w' ∧ Keep W0 w' → (Only (fun j => ¬ Pr j) V6 w' ∧ Keep W0 w') ∧ (((w'.cell? ⟨W5.heap.size, 0, none⟩ = some (.int .i32 x.l) ∧ w'.cell? ⟨W5.heap.size, 1, none⟩ = some (.int .i32 x.r) ∧ w'.cell? ⟨W5.heap.size, 2, none⟩ = some (.int .i64 x.c) ∧ w'.cell? ⟨W5.heap.size, 3, none⟩ = some (.int .i64 x.s) ∧ w'.cell? ⟨W5.heap.size, 4, none⟩ = some (.int .i64 x.mn) ∧ w'.cell? ⟨W5.heap.size, 5, none⟩ = some (.int .i64 x.mx) ∧ w'.cell? ⟨W5.heap.size, 6, none⟩ = some (.bool x.k)) ∧ (w'.cell? ⟨W6.heap.size, 0, none⟩ = some (.int .i32 y.l) ∧ w'.cell? ⟨W6.heap.size, 1, none⟩ = some (.int .i32 y.r) ∧ w'.cell? ⟨W6.heap.size, 2, none⟩ = some (.int .i64 y.c) ∧ w'.cell? ⟨W6.heap.size, 3, none⟩ = some (.int .i64 y.s) ∧ w'.cell? ⟨W6.heap.size, 4, none⟩ = some (.int .i64 y.mn) ∧ w'.cell? ⟨W6.heap.size, 5, none⟩ = some (.int .i64 y.mx) ∧ w'.cell? ⟨W6.heap.size, 6, none⟩ = some (.bool y.k))) ∧ ((w'.cell? ⟨bz, oz + p * 7, none⟩ = some (.int .i32 x.l) ∧ w'.cell? ⟨bz, oz + p * 7 + 1, none⟩ = some (.int .i32 x.r) ∧ w'.cell? ⟨bz, oz + p * 7 + 2, none⟩ = some (.int .i64 x.c) ∧ w'.cell? ⟨bz, oz + p * 7 + 3, none⟩ = some (.int .i64 x.s) ∧ w'.cell? ⟨bz, oz + p * 7 + 4, none⟩ = some (.int .i64 x.mn) ∧ w'.cell? ⟨bz, oz + p * 7 + 5, none⟩ = some (.int .i64 x.mx) ∧ w'.cell? ⟨bz, oz + p * 7 + 6, none⟩ = some (.bool x.k)) ∧ (w'.cell? ⟨bz, oz + q * 7, none⟩ = some (.int .i32 y.l) ∧ w'.cell? ⟨bz, oz + q * 7 + 1, none⟩ = some (.int .i32 y.r) ∧ w'.cell? ⟨bz, oz + q * 7 + 2, none⟩ = some (.int .i64 y.c) ∧ w'.cell? ⟨bz, oz + q * 7 + 3, none⟩ = some (.int .i64 y.s) ∧ w'.cell? ⟨bz, oz + q * 7 + 4, none⟩ = some (.int .i64 y.mn) ∧ w'.cell? ⟨bz, oz + q * 7 + 5, none⟩ = some (.int .i64 y.mx) ∧ w'.cell? ⟨bz, oz + q * 7 + 6, none⟩ = some (.bool y.k)))) from fun w' h => ⟨h,
        ⟨(HX6.out.only h.1 (fun n => n HPx.out)).cells, (HN6.out.only h.1 (fun n => n HPy.out)).cells⟩, HGX.out.block (h.2.block bz HBZ.out), HGY.out.block (h.2.block bz HBZ.out)⟩)
      have hKc : Only (fun j => ¬ Pr j) V6 V6.drew ∧ Keep W0 V6.drew := ⟨(Only.refl _ _).drew, HM6.out.keepW.drew⟩
      have hMc : My W0 W0.heap.size k zs Pr V6.drew := HM6.out.kept (Keep.refl V6).drew
      have q1 := equal_nd x
      have q2 := equal_nd y
      have ip1 : (p : Int) < (k : Int) := by omega
      have iq1 : (q : Int) < (k : Int) := by omega
      have wp1 : IntKind.i32.wrap ((p : Int) + 1 - 1) = (p : Int) := by rw [IntKind.wrap_i32]; omega
      have wq1 : IntKind.i32.wrap ((q : Int) + 1 - 1) = (q : Int) := by rw [IntKind.wrap_i32]; omega
      have wp2 : IntKind.i32.wrap (p : Int) = (p : Int) := by rw [IntKind.wrap_i32]; omega
      have wq2 : IntKind.i32.wrap (q : Int) = (q : Int) := by rw [IntKind.wrap_i32]; omega
      refine seq_region (S := fun w' => (Only (fun j => ¬ Pr j) V6 w' ∧ Keep W0 w') ∧ (((w'.cell? ⟨W5.heap.size, 0, none⟩ = some (.int .i32 x.l) ∧ w'.cell? ⟨W5.heap.size, 1, none⟩ = some (.int .i32 x.r) ∧ w'.cell? ⟨W5.heap.size, 2, none⟩ = some (.int .i64 x.c) ∧ w'.cell? ⟨W5.heap.size, 3, none⟩ = some (.int .i64 x.s) ∧ w'.cell? ⟨W5.heap.size, 4, none⟩ = some (.int .i64 x.mn) ∧ w'.cell? ⟨W5.heap.size, 5, none⟩ = some (.int .i64 x.mx) ∧ w'.cell? ⟨W5.heap.size, 6, none⟩ = some (.bool x.k)) ∧ (w'.cell? ⟨W6.heap.size, 0, none⟩ = some (.int .i32 y.l) ∧ w'.cell? ⟨W6.heap.size, 1, none⟩ = some (.int .i32 y.r) ∧ w'.cell? ⟨W6.heap.size, 2, none⟩ = some (.int .i64 y.c) ∧ w'.cell? ⟨W6.heap.size, 3, none⟩ = some (.int .i64 y.s) ∧ w'.cell? ⟨W6.heap.size, 4, none⟩ = some (.int .i64 y.mn) ∧ w'.cell? ⟨W6.heap.size, 5, none⟩ = some (.int .i64 y.mx) ∧ w'.cell? ⟨W6.heap.size, 6, none⟩ = some (.bool y.k))) ∧ ((w'.cell? ⟨bz, oz + p * 7, none⟩ = some (.int .i32 x.l) ∧ w'.cell? ⟨bz, oz + p * 7 + 1, none⟩ = some (.int .i32 x.r) ∧ w'.cell? ⟨bz, oz + p * 7 + 2, none⟩ = some (.int .i64 x.c) ∧ w'.cell? ⟨bz, oz + p * 7 + 3, none⟩ = some (.int .i64 x.s) ∧ w'.cell? ⟨bz, oz + p * 7 + 4, none⟩ = some (.int .i64 x.mn) ∧ w'.cell? ⟨bz, oz + p * 7 + 5, none⟩ = some (.int .i64 x.mx) ∧ w'.cell? ⟨bz, oz + p * 7 + 6, none⟩ = some (.bool x.k)) ∧ (w'.cell? ⟨bz, oz + q * 7, none⟩ = some (.int .i32 y.l) ∧ w'.cell? ⟨bz, oz + q * 7 + 1, none⟩ = some (.int .i32 y.r) ∧ w'.cell? ⟨bz, oz + q * 7 + 2, none⟩ = some (.int .i64 y.c) ∧ w'.cell? ⟨bz, oz + q * 7 + 3, none⟩ = some (.int .i64 y.s) ∧ w'.cell? ⟨bz, oz + q * 7 + 4, none⟩ = some (.int .i64 y.mn) ∧ w'.cell? ⟨bz, oz + q * 7 + 5, none⟩ = some (.int .i64 y.mx) ∧ w'.cell? ⟨bz, oz + q * 7 + 6, none⟩ = some (.bool y.k))))) [⟨0, 131072, 2475880078570760549798248448⟩, ⟨0, 1, 4951760157141521099596496896⟩, ⟨0, 32768, 9903520314283042199192993792⟩, ⟨4, 9903520314283042199192993792, 19807040628566084398385987584⟩, ⟨10, 24758800785707605497982484480, 39614081257132168796771975168⟩, ⟨16, 39614081257132168796771975168, 79228162514264337593543950336⟩, ⟨33, 81704042592835098143342198784, 158456325028528675187087900672⟩, ⟨64, 158456325028528675187087900672, 316912650057057350374175801344⟩, ⟨128, 316912650057057350374176325632, 633825300114114700748351602688⟩, ⟨128, 316912650057057350374175801345, 1267650600228229401496703205376⟩, ⟨128, 316912650057057350374175866880, 2535301200456458802993406410752⟩, ⟨1152, 2852213850513516153367582212096, 5070602400912917605986812821504⟩, ⟨2688, 6655165651198204357857691828224, 10141204801825835211973625643008⟩, ⟨4224, 10458117451882892562347801444352, 20282409603651670423947251286016⟩, ⟨8576, 21233147553822842475069778690048, 40564819207303340847894502572032⟩, ⟨16512, 40881731857360398198268678373376, 81129638414606681695789005144064⟩, ⟨32896, 81129638414606681695789005144064, 162259276829213363391578010288128⟩, ⟨65536, 162259276829213363391578010288256, 324518553658426726783156020576256⟩, ⟨65536, 162259276829213363391578010320896, 649037107316853453566312041152512⟩, ⟨65536, 162259276829213363391578010812416, 1298074214633706907132624082305024⟩, ⟨983040, 2433889152438200450873670154321920, 2596148429267413814265248164610048⟩, ⟨1114112, 2758407706096627177656826174898176, 5192296858534827628530496329220096⟩, ⟨2162688, 5354556135364040991922074339508224, 10384593717069655257060992658440192⟩, ⟨5242880, 10384593717069655257060992658440192, 20769187434139310514121985316880384⟩, ⟨8388608, 20769187434139310514121985316880512, 41538374868278621028243970633760768⟩, ⟨8388608, 20769187434139310514121985316945920, 83076749736557242056487941267521536⟩, ⟨8388608, 20769187434139310514121985317011456, 166153499473114484112975882535043072⟩, ⟨125829120, 311537811512089657711829779753205760, 332306998946228968225951765070086144⟩, ⟨142606336, 353076186380368278740073750386966528, 664613997892457936451903530140172288⟩, ⟨276824064, 685383185326597246966025515457052672, 1329227995784915872903807060280344576⟩] [(0, false), (1, false), (2, false), (3, false), (4, false), (5, false), (6, false), (7, false), (8, false), (9, false), (10, false), (11, false), (12, false), (13, false), (14, false), (15, false), (16, false), (17, false), (18, false), (19, false), (20, true), (21, false), (22, false), (23, false), (24, false), (25, false), (26, false), (27, true), (28, false), (29, false)] rfl (by kernel_rfl) (by kernel_rfl) (fun _ _ d _ _ h => by cases d <;> exact h) (HSS.out _ hKc) ?_
      simp only [rowsOf, rowAt, gslot, List.map_cons, List.map_nil, List.getElem?_toArray, List.getElem?_cons_zero, List.getElem?_cons_succ, Option.bind_some]
      repeat (first
        | (refine seq_take (v := ?_) (a' := ?_) (by rfl) ?_ ?_ ?_
           rotate_left 2
           · (intro w hSw; obtain ⟨-, hSw⟩ := hSw; go_split_ands; go_simp; with_reducible rfl)
           · (simp only [Act.put, List.setIfInBounds_toArray, List.set_cons_zero, List.set_cons_succ]; with_reducible rfl)))
      refine seq_callR (R := fun w' => My W0 W0.heap.size k (zs.set p y) Pr w') (f := 12) (args := ?_) (v := ?_) (a' := ?_) (by rfl) (by rfl) (by rfl) Try.call12 ?_ ?_ ?_ ?_
      rotate_left 3
      · (go_simp; with_reducible rfl)
      · ((with_reducible refine (my_set p y hMc (by rw [HZL.out]; exact hp)).mono ?_)
         rintro e w' ⟨rfl, hm, ho⟩
         refine ⟨?_, HSS.out _ ⟨hKc.1.trans ho (fun _ _ t => t), hm.keepW⟩, hm⟩
         with_reducible rfl)
      · (simp only [Act.put, List.setIfInBounds_toArray, List.set_cons_zero, List.set_cons_succ]; with_reducible rfl)
      clear hKc hMc
      intro w2 hw2 hMc
      have hKc := hw2.1
      clear hw2
      repeat (first
        | (refine seq_take (v := ?_) (a' := ?_) (by rfl) ?_ ?_ ?_
           rotate_left 2
           · (intro w hSw; obtain ⟨-, hSw⟩ := hSw; go_split_ands; go_simp; with_reducible rfl)
           · (simp only [Act.put, List.setIfInBounds_toArray, List.set_cons_zero, List.set_cons_succ]; with_reducible rfl)))
      refine seq_callR (R := fun w' => My W0 W0.heap.size k ((zs.set p y).set q x) Pr w') (f := 12) (args := ?_) (v := ?_) (a' := ?_) (by rfl) (by rfl) (by rfl) Try.call12 ?_ ?_ ?_ ?_
      rotate_left 3
      · (go_simp; with_reducible rfl)
      · ((with_reducible refine (my_set q x hMc (by rw [List.length_set, HZL.out]; exact hq)).mono ?_)
         rintro e w' ⟨rfl, hm, ho⟩
         refine ⟨?_, HSS.out _ ⟨hKc.1.trans ho (fun _ _ t => t), hm.keepW⟩, hm⟩
         with_reducible rfl)
      · (simp only [Act.put, List.setIfInBounds_toArray, List.set_cons_zero, List.set_cons_succ]; with_reducible rfl)
      clear hKc hMc
      intro w2 hw2 hMc
      have hKc := hw2.1
      clear hw2
      repeat (first
        | (refine seq_take (v := ?_) (a' := ?_) (by rfl) ?_ ?_ ?_
           rotate_left 2
           · (intro w hSw; obtain ⟨-, hSw⟩ := hSw; go_split_ands; go_simp; with_reducible rfl)
           · (simp only [Act.put, List.setIfInBounds_toArray, List.set_cons_zero, List.set_cons_succ]; with_reducible rfl)))
      refine seq_nil ?_
      have HF := Lib.hid (swap_facts zs p q x y HX.out HY.out)
      have HX3 := Lib.hid (HX6.out.only hKc.1 (fun n => n HPx.out))
      have HY3 := Lib.hid (HN6.out.only hKc.1 (fun n => n HPy.out))
      have HR7 := Lib.hid (HR6.out.only hKc.1 (fun b off e n => n (HP3.out b off e)))
      have HMc := Lib.hid hMc
      clear hKc hMc wp1 wp2 wq1 wq2 HSS
      go_wp2_with fail
      refine (my_get p y HMc.out HF.out.1).mono ?_
      rintro e W7 ⟨rfl, h7⟩
      have HK7 := Lib.hid (h7.alloc (.cells #[.int .i32 y.l, .int .i32 y.r, .int .i64 y.c, .int .i64 y.s, .int .i64 y.mn, .int .i64 y.mx, .bool y.k] 34))
      have HN7 := Lib.hid (NdAt.new W7 y)
      clear h7
      go_wp2_with fail
      generalize W7.alloc (.cells #[.int .i32 y.l, .int .i32 y.r, .int .i64 y.c, .int .i64 y.s, .int .i64 y.mn, .int .i64 y.mx, .bool y.k] 34) = V7 at *
      refine (my_get q x (HMc.out.kept HK7.out) HF.out.2.1).mono ?_
      rintro e W8 ⟨rfl, h8⟩
      have HK8 := Lib.hid (h8.alloc (.cells #[.int .i32 x.l, .int .i32 x.r, .int .i64 x.c, .int .i64 x.s, .int .i64 x.mn, .int .i64 x.mx, .bool x.k] 34))
      have hN8 := NdAt.new W8 x
      clear h8
      obtain ⟨Z8, hZ8⟩ : ∃ Z, W8.alloc (.cells #[.int .i32 x.l, .int .i32 x.r, .int .i64 x.c, .int .i64 x.s, .int .i64 x.mn, .int .i64 x.mx, .bool x.k] 34) = Z := ⟨_, rfl⟩
      rw [hZ8] at hN8
      have hK8 := HK8.out
      rw [hZ8] at hK8
      have hX8 := HX3.out.keep (HK7.out.trans hK8)
      have hY8 := HY3.out.keep (HK7.out.trans hK8)
      have HX8 := Lib.hid hX8
      have HY8 := Lib.hid hY8
      have HM8 := Lib.hid (HMc.out.kept (HK7.out.trans hK8))
      have HR8 := Lib.hid (HR7.out.keep (HK7.out.trans hK8))
      obtain ⟨x0, x1, x2, x3, x4, x5, x6⟩ := hX8.cells
      obtain ⟨y0, y1, y2, y3, y4, y5, y6⟩ := hY8.cells
      obtain ⟨u0, u1, u2, u3, u4, u5, u6⟩ := (HN7.out.keep hK8).cells
      obtain ⟨v0, v1, v2, v3, v4, v5, v6⟩ := hN8.cells
      clear HK8 hK8 hX8 hY8 hN8 HN7 HK7 HMc HR7 HX3 HY3
      go_wp2_with fail
      clear hZ8 x0 x1 x2 x3 x4 x5 x6 y0 y1 y2 y3 y4 y5 y6 u0 u1 u2 u3 u4 u5 u6 v0 v1 v2 v3 v4 v5 v6
      refine (my_set p x HM8.out (by rw [List.length_set, List.length_set, HZL.out]; exact hp)).mono ?_
      rintro e W9 ⟨rfl, h9, ho9⟩
      have hY9 := HY8.out.only ho9 (fun n => n HPy.out)
      obtain ⟨y0, y1, y2, y3, y4, y5, y6⟩ := hY9.cells
      have HR9 := Lib.hid (HR8.out.only ho9 (fun b off e n => n (HP3.out b off e)))
      have H9 := Lib.hid h9
      clear h9 ho9 hY9 HM8 HR8 HX8 HY8
      go_wp2_with fail
      refine (my_set q y H9.out (by rw [List.length_set, List.length_set, List.length_set, HZL.out]; exact hq)).mono ?_
      rintro e W10 ⟨rfl, h10, ho10⟩
      rw [HF.out.2.2] at h10
      have HR10 := Lib.hid (HR9.out.only ho10 (fun b off e n => n (HP3.out b off e)))
      have H10 := Lib.hid h10
      clear h10 ho10 H9 HR9 y0 y1 y2 y3 y4 y5 y6
      go_wp2_with fail
      refine (my_nodes 1000 zs H10.out (by decide) (List.take_of_length_le (by rw [HZL.out]; omega))).mono ?_
      rintro e W11 ⟨A11, c11, rfl, hrow11, hk11⟩
      have HR11 := Lib.hid (NdS.of_row hrow11)
      have HW11 := Lib.hid (HR10.out.keep hk11)
      have HK11 := Lib.hid ((HK0.out.trans H10.out.keepW).trans hk11)
      clear hrow11 hk11 H10 HR10
      rw [HZL.out]
      clear q1 q2
      go_wp2_with fail
      go_loopw [165] (fun ix wr => ∃ j : Nat, j ≤ k ∧ ix = .int .i64 j ∧ Keep W11 wr) (fun ix _ => k - (intOf ix).toNat)
      case atStart => exact ⟨0, Nat.zero_le _, rfl, Keep.refl _⟩
      case round =>
        obtain ⟨j, hj, rfl, hK2⟩ := hrel
        by_cases hlt2 : j < k
        · obtain ⟨z, hz⟩ : ∃ z, zs[j]? = some z := ⟨_, List.getElem?_eq_getElem (by rw [HZL.out]; exact hlt2)⟩
          obtain ⟨bn, on, rfl, _, hbn, gn⟩ := (HR11.out.keep hK2) j z hz
          obtain ⟨bw, ow, rfl, _, hbw, gw⟩ := (HW11.out.keep hK2) j z hz
          obtain ⟨bl, ol, el, _, hbl, gl⟩ := (HS.out.keep (HK11.out.trans hK2)) j z hz
          cases el
          have HZ := Lib.hid hz
          have HSS := Lib.hid (show ∀ w', Keep wr w' → Keep wr w' ∧ ((w'.cell? ⟨bn, on + j * 7, none⟩ = some (.int .i32 z.l) ∧ w'.cell? ⟨bn, on + j * 7 + 1, none⟩ = some (.int .i32 z.r) ∧ w'.cell? ⟨bn, on + j * 7 + 2, none⟩ = some (.int .i64 z.c) ∧ w'.cell? ⟨bn, on + j * 7 + 3, none⟩ = some (.int .i64 z.s) ∧ w'.cell? ⟨bn, on + j * 7 + 4, none⟩ = some (.int .i64 z.mn) ∧ w'.cell? ⟨bn, on + j * 7 + 5, none⟩ = some (.int .i64 z.mx) ∧ w'.cell? ⟨bn, on + j * 7 + 6, none⟩ = some (.bool z.k)) ∧ ((w'.cell? ⟨bw, ow + j * 7, none⟩ = some (.int .i32 z.l) ∧ w'.cell? ⟨bw, ow + j * 7 + 1, none⟩ = some (.int .i32 z.r) ∧ w'.cell? ⟨bw, ow + j * 7 + 2, none⟩ = some (.int .i64 z.c) ∧ w'.cell? ⟨bw, ow + j * 7 + 3, none⟩ = some (.int .i64 z.s) ∧ w'.cell? ⟨bw, ow + j * 7 + 4, none⟩ = some (.int .i64 z.mn) ∧ w'.cell? ⟨bw, ow + j * 7 + 5, none⟩ = some (.int .i64 z.mx) ∧ w'.cell? ⟨bw, ow + j * 7 + 6, none⟩ = some (.bool z.k)) ∧ (w'.cell? ⟨bz, oz + j * 7, none⟩ = some (.int .i32 z.l) ∧ w'.cell? ⟨bz, oz + j * 7 + 1, none⟩ = some (.int .i32 z.r) ∧ w'.cell? ⟨bz, oz + j * 7 + 2, none⟩ = some (.int .i64 z.c) ∧ w'.cell? ⟨bz, oz + j * 7 + 3, none⟩ = some (.int .i64 z.s) ∧ w'.cell? ⟨bz, oz + j * 7 + 4, none⟩ = some (.int .i64 z.mn) ∧ w'.cell? ⟨bz, oz + j * 7 + 5, none⟩ = some (.int .i64 z.mx) ∧ w'.cell? ⟨bz, oz + j * 7 + 6, none⟩ = some (.bool z.k)))) from fun w' h => ⟨h, gn.block (h.block _ hbn), gw.block (h.block _ hbw), gl.block (h.block _ hbl)⟩)
          clear hz gn gw gl
          have hki : (j : Int) < (k : Int) := by omega
          have q1 := equal_nd z
          have hKc := (Keep.refl wr).drew
          go_wp2_with fail
          refine seq_region (S := fun w' => Keep wr w' ∧ ((w'.cell? ⟨bn, on + j * 7, none⟩ = some (.int .i32 z.l) ∧ w'.cell? ⟨bn, on + j * 7 + 1, none⟩ = some (.int .i32 z.r) ∧ w'.cell? ⟨bn, on + j * 7 + 2, none⟩ = some (.int .i64 z.c) ∧ w'.cell? ⟨bn, on + j * 7 + 3, none⟩ = some (.int .i64 z.s) ∧ w'.cell? ⟨bn, on + j * 7 + 4, none⟩ = some (.int .i64 z.mn) ∧ w'.cell? ⟨bn, on + j * 7 + 5, none⟩ = some (.int .i64 z.mx) ∧ w'.cell? ⟨bn, on + j * 7 + 6, none⟩ = some (.bool z.k)) ∧ ((w'.cell? ⟨bw, ow + j * 7, none⟩ = some (.int .i32 z.l) ∧ w'.cell? ⟨bw, ow + j * 7 + 1, none⟩ = some (.int .i32 z.r) ∧ w'.cell? ⟨bw, ow + j * 7 + 2, none⟩ = some (.int .i64 z.c) ∧ w'.cell? ⟨bw, ow + j * 7 + 3, none⟩ = some (.int .i64 z.s) ∧ w'.cell? ⟨bw, ow + j * 7 + 4, none⟩ = some (.int .i64 z.mn) ∧ w'.cell? ⟨bw, ow + j * 7 + 5, none⟩ = some (.int .i64 z.mx) ∧ w'.cell? ⟨bw, ow + j * 7 + 6, none⟩ = some (.bool z.k)) ∧ (w'.cell? ⟨bz, oz + j * 7, none⟩ = some (.int .i32 z.l) ∧ w'.cell? ⟨bz, oz + j * 7 + 1, none⟩ = some (.int .i32 z.r) ∧ w'.cell? ⟨bz, oz + j * 7 + 2, none⟩ = some (.int .i64 z.c) ∧ w'.cell? ⟨bz, oz + j * 7 + 3, none⟩ = some (.int .i64 z.s) ∧ w'.cell? ⟨bz, oz + j * 7 + 4, none⟩ = some (.int .i64 z.mn) ∧ w'.cell? ⟨bz, oz + j * 7 + 5, none⟩ = some (.int .i64 z.mx) ∧ w'.cell? ⟨bz, oz + j * 7 + 6, none⟩ = some (.bool z.k))))) [⟨0, 33554432, 374144419156711147060143317175368453031918731001856⟩, ⟨0, 134217728, 748288838313422294120286634350736906063837462003712⟩, ⟨3, 1122433257470133441180429951526105359095756193005568, 1496577676626844588240573268701473812127674924007424⟩, ⟨4, 1496577676626844588240573268701473812127674924007424, 2993155353253689176481146537402947624255349848014848⟩, ⟨0, 8192, 5986310706507378352962293074805895248510699696029696⟩, ⟨0, 134217728, 11972621413014756705924586149611790497021399392059392⟩, ⟨48, 17958932119522135058886879224417685745532099088089088, 23945242826029513411849172299223580994042798784118784⟩, ⟨64, 23945242826029513411849172299223580994042798784118784, 47890485652059026823698344598447161988085597568237568⟩, ⟨136, 50883641005312716000179491135850109612340947416252416, 95780971304118053647396689196894323976171195136475136⟩, ⟨256, 95780971304118053647396689196894323976171195136475136, 191561942608236107294793378393788647952342390272950272⟩, ⟨512, 191561942608236107294793378393788647952342390306504704, 383123885216472214589586756787577295904684780545900544⟩, ⟨512, 191561942608236107294793378393788647952342390407168000, 766247770432944429179173513575154591809369561091801088⟩, ⟨3584, 1340933598257652751063553648756520535666396731910651904, 1532495540865888858358347027150309183618739122183602176⟩, ⟨4608, 1724057483474124965653140405544097831571081512456552448, 3064991081731777716716694054300618367237478244367204352⟩, ⟨512, 191561942608236107294793378393788647952342390272950273, 6129982163463555433433388108601236734474956488734408704⟩, ⟨512, 191561942608236107294793378393788647952342390407168000, 12259964326927110866866776217202473468949912977468817408⟩, ⟨49664, 18581508432998902407594957704197498851377211856476176384, 24519928653854221733733552434404946937899825954937634816⟩, ⟨66048, 24711490596462457841028345812798735585852168345210585088, 49039857307708443467467104868809893875799651909875269632⟩, ⟨139776, 52296410332048457291478592301504300890989472544515424256, 98079714615416886934934209737619787751599303819750539264⟩, ⟨262656, 98271276558025123042229003116013576399551646210023489536, 196159429230833773869868419475239575503198607639501078528⟩] [(0, false), (1, false), (2, false), (3, false), (4, false), (5, false), (6, false), (7, false), (8, false), (9, false), (10, false), (11, false), (12, false), (13, false), (14, false), (15, false), (16, false), (17, false), (18, false), (19, false)] rfl (by kernel_rfl) (by kernel_rfl) (fun _ _ d _ _ h => by cases d <;> exact h) (HSS.out _ hKc) ?_
          simp only [rowsOf, rowAt, gslot, List.map_cons, List.map_nil, List.getElem?_toArray, List.getElem?_cons_zero, List.getElem?_cons_succ, Option.bind_some]
          repeat (first
            | (refine seq_take (v := ?_) (a' := ?_) (by rfl) ?_ ?_ ?_
               rotate_left 2
               · (intro w hSw; obtain ⟨-, hSw⟩ := hSw; go_split_ands; go_simp; with_reducible rfl)
               · (simp only [Act.put, List.setIfInBounds_toArray, List.set_cons_zero, List.set_cons_succ]; with_reducible rfl)))
          refine seq_nil ?_
          go_wp2
          go_roundw
          case rel => exact ⟨j + 1, by omega, by go_num, hK2.trans hKc⟩
          case measure => simp [intOf]; omega
        · go_wp2
          go_ret
          exact ⟨rfl, HK11.out.trans hK2⟩
theorem ArenaSwaps_std (A : Option Addr) (len cap : Nat) (zs : List Nd) (a1 : Int) (_ : (Lit.int .i64 a1).wf = true) (a2 : Int) (_ : (Lit.int .i64 a2).wf = true) (w : World) (row : NdArg w A len zs) :
    Calls Try.prog 6 #[.slice A len cap, .int .i64 a1, .int .i64 a2] w fun e w' => e = .returned (.bool true) ∧ Below w.heap.size w w' := swaps_law A len cap zs a1 a2 w row
end Go.Proofs.Ytdnhgfbchddabab
