/- AggMerges: merging goes in any order; with nothing it is the same. -/
import Derived.Test.YtglokhpgjfoneacAggMade2
import Derived.Test.YtglokhpgjfoneacAggAlive
namespace Go.Proofs.Ytglokhpgjfoneac
open Go.RowKit

theorem wpAnyH_named {P : Program} {md : Region.Mode} {ops : Array Oper} {Q : Exit → Act → World → Prop} {S : World → Prop} {fuel : Nat} {listed : Array Bool} {a : Act} {w : World} (h : ∀ a0, a0 = a → wpAnyH P md ops Q S fuel listed a0 w) : wpAnyH P md ops Q S fuel listed a w := h a rfl
theorem merge_is (a b v : Ag) (w : World) (h : mrg a b = v) : Calls Try.prog 15 #[.agg #[.int .i64 a.c, .int .i64 a.s, .int .i64 a.mn, .int .i64 a.mx], .agg #[.int .i64 b.c, .int .i64 b.s, .int .i64 b.mn, .int .i64 b.mx]] w fun e w' => e = .returned (.agg #[.int .i64 v.c, .int .i64 v.s, .int .i64 v.mn, .int .i64 v.mx]) ∧ Keep w w' := h ▸ merge_any a b w
theorem merge_n1 (x : Ag) (q : Int) (w : World) (h : mrg x ⟨q, 9, 3, -2⟩ = x) : Calls Try.prog 15 #[.agg #[.int .i64 x.c, .int .i64 x.s, .int .i64 x.mn, .int .i64 x.mx], .agg #[.int .i64 q, .int .i64 9, .int .i64 3, .int .i64 (-2)]] w fun e w' => e = .returned (.agg #[.int .i64 x.c, .int .i64 x.s, .int .i64 x.mn, .int .i64 x.mx]) ∧ Keep w w' := merge_is x ⟨q, 9, 3, -2⟩ x w h
theorem merge_n2 (x : Ag) (q : Int) (w : World) (h : mrg ⟨q, 9, 3, -2⟩ x = x) : Calls Try.prog 15 #[.agg #[.int .i64 q, .int .i64 9, .int .i64 3, .int .i64 (-2)], .agg #[.int .i64 x.c, .int .i64 x.s, .int .i64 x.mn, .int .i64 x.mx]] w fun e w' => e = .returned (.agg #[.int .i64 x.c, .int .i64 x.s, .int .i64 x.mn, .int .i64 x.mx]) ∧ Keep w w' := merge_is ⟨q, 9, 3, -2⟩ x x w h
theorem merge_n3 (q : Int) (w : World) (h : mrg ⟨q, 9, 3, -2⟩ ⟨q, 9, 3, -2⟩ = ⟨0, 0, 0, 0⟩) : Calls Try.prog 15 #[.agg #[.int .i64 q, .int .i64 9, .int .i64 3, .int .i64 (-2)], .agg #[.int .i64 q, .int .i64 9, .int .i64 3, .int .i64 (-2)]] w fun e w' => e = .returned (.agg #[.int .i64 0, .int .i64 0, .int .i64 0, .int .i64 0]) ∧ Keep w w' := merge_is ⟨q, 9, 3, -2⟩ ⟨q, 9, 3, -2⟩ ⟨0, 0, 0, 0⟩ w h
theorem four_new (w : World) (a b c d : Ag) : AgAt ((((w.alloc (.cells #[.int .i64 a.c, .int .i64 a.s, .int .i64 a.mn, .int .i64 a.mx] 24)).alloc (.cells #[.int .i64 b.c, .int .i64 b.s, .int .i64 b.mn, .int .i64 b.mx] 24)).alloc (.cells #[.int .i64 c.c, .int .i64 c.s, .int .i64 c.mn, .int .i64 c.mx] 24)).alloc (.cells #[.int .i64 d.c, .int .i64 d.s, .int .i64 d.mn, .int .i64 d.mx] 24)) w.heap.size a ∧ AgAt ((((w.alloc (.cells #[.int .i64 a.c, .int .i64 a.s, .int .i64 a.mn, .int .i64 a.mx] 24)).alloc (.cells #[.int .i64 b.c, .int .i64 b.s, .int .i64 b.mn, .int .i64 b.mx] 24)).alloc (.cells #[.int .i64 c.c, .int .i64 c.s, .int .i64 c.mn, .int .i64 c.mx] 24)).alloc (.cells #[.int .i64 d.c, .int .i64 d.s, .int .i64 d.mn, .int .i64 d.mx] 24)) (w.heap.size + 1) b ∧ AgAt ((((w.alloc (.cells #[.int .i64 a.c, .int .i64 a.s, .int .i64 a.mn, .int .i64 a.mx] 24)).alloc (.cells #[.int .i64 b.c, .int .i64 b.s, .int .i64 b.mn, .int .i64 b.mx] 24)).alloc (.cells #[.int .i64 c.c, .int .i64 c.s, .int .i64 c.mn, .int .i64 c.mx] 24)).alloc (.cells #[.int .i64 d.c, .int .i64 d.s, .int .i64 d.mn, .int .i64 d.mx] 24)) (w.heap.size + 2) c ∧ AgAt ((((w.alloc (.cells #[.int .i64 a.c, .int .i64 a.s, .int .i64 a.mn, .int .i64 a.mx] 24)).alloc (.cells #[.int .i64 b.c, .int .i64 b.s, .int .i64 b.mn, .int .i64 b.mx] 24)).alloc (.cells #[.int .i64 c.c, .int .i64 c.s, .int .i64 c.mn, .int .i64 c.mx] 24)).alloc (.cells #[.int .i64 d.c, .int .i64 d.s, .int .i64 d.mn, .int .i64 d.mx] 24)) (w.heap.size + 3) d := by
  obtain ⟨h1, h2, h3⟩ := three_at w a b c
  have hk := (Keep.refl (((w.alloc (.cells #[.int .i64 a.c, .int .i64 a.s, .int .i64 a.mn, .int .i64 a.mx] 24)).alloc (.cells #[.int .i64 b.c, .int .i64 b.s, .int .i64 b.mn, .int .i64 b.mx] 24)).alloc (.cells #[.int .i64 c.c, .int .i64 c.s, .int .i64 c.mn, .int .i64 c.mx] 24))).alloc (.cells #[.int .i64 d.c, .int .i64 d.s, .int .i64 d.mn, .int .i64 d.mx] 24)
  have h4 := AgAt.new (((w.alloc (.cells #[.int .i64 a.c, .int .i64 a.s, .int .i64 a.mn, .int .i64 a.mx] 24)).alloc (.cells #[.int .i64 b.c, .int .i64 b.s, .int .i64 b.mn, .int .i64 b.mx] 24)).alloc (.cells #[.int .i64 c.c, .int .i64 c.s, .int .i64 c.mn, .int .i64 c.mx] 24)) d
  rw [show (((w.alloc (.cells #[.int .i64 a.c, .int .i64 a.s, .int .i64 a.mn, .int .i64 a.mx] 24)).alloc (.cells #[.int .i64 b.c, .int .i64 b.s, .int .i64 b.mn, .int .i64 b.mx] 24)).alloc (.cells #[.int .i64 c.c, .int .i64 c.s, .int .i64 c.mn, .int .i64 c.mx] 24)).heap.size = w.heap.size + 3 by simp] at h4
  exact ⟨h1.keep hk, h2.keep hk, h3.keep hk, h4⟩
theorem mrg_nothing {xs : List Int} {a : Ag} (h : IsOf xs a) (q : Int) (hq : q < 1) : mrg a ⟨q, 9, 3, -2⟩ = a ∧ mrg ⟨q, 9, 3, -2⟩ a = a := by
  by_cases h1 : a.c < 1
  · have := h.none (h.cnt.1 h1)
    subst this
    exact ⟨mrg_oo h1 hq, mrg_oo hq h1⟩
  · exact ⟨mrg_xo h1 hq, mrg_ox hq h1⟩

set_option maxRecDepth 100000 in
set_option maxHeartbeats 8000000 in
theorem merges_lt (A B C : Option Addr) (n1 n2 n3 c1 c2 c3 : Nat) (xs ys zs : List Int) (q : Int) (w : World) (ra : Arr .i64 w A n1 xs) (rb : Arr .i64 w B n2 ys) (rc : Arr .i64 w C n3 zs) (na : A = none → c1 = 0) (nb : B = none → c2 = 0)
    (g1 : n1 ≤ 100) (g2 : n2 ≤ 100) (g3 : n3 ≤ 100) (hqq : q < 0) :
    Calls Try.prog 7 #[.slice A n1 c1, .slice B n2 c2, .slice C n3 c3, .int .i64 q] w fun e w' => e = .returned (.bool true) ∧ Keep w w' := by
  have ia := ra.in
  have ib := rb.in
  have ic := rc.in
  have la := ra.2.1
  have lb := rb.2.1
  have lc := rc.2.1
  have l1 : xs.length = n1 := by have := la.1; rwa [vals_length] at this
  have l2 : ys.length = n2 := by have := lb.1; rwa [vals_length] at this
  have l3 : zs.length = n3 := by have := lc.1; rwa [vals_length] at this
  have hq1 : q < 1 := by omega
  have ox := isOf xs (by omega) ia
  have m1 : mrg (ofL xs) (ofL ys) = ofL (xs ++ ys) := ofL_cat (by omega) ia ib
  have m2 : mrg (ofL ys) (ofL xs) = ofL (xs ++ ys) := ofL_comm (by omega) ia ib
  have m3 : mrg (ofL ys) (ofL zs) = ofL (ys ++ zs) := ofL_cat (by omega) ib ic
  have iab : ∀ z ∈ xs ++ ys, inI z := fun z hz => (List.mem_append.1 hz).elim (ia z) (ib z)
  have ibc : ∀ z ∈ ys ++ zs, inI z := fun z hz => (List.mem_append.1 hz).elim (ib z) (ic z)
  have m4 : mrg (ofL xs) (ofL (ys ++ zs)) = ofL (xs ++ ys ++ zs) := by rw [ofL_cat (by rw [List.length_append]; omega) ia ibc, List.append_assoc]
  have m5 : mrg (ofL (xs ++ ys)) (ofL zs) = ofL (xs ++ ys ++ zs) := ofL_cat (by rw [List.length_append]; omega) iab ic
  obtain ⟨m6, m7⟩ := mrg_nothing ox q hq1
  have m8 : mrg (⟨q, 9, 3, -2⟩ : Ag) ⟨q, 9, 3, -2⟩ = ⟨0, 0, 0, 0⟩ := mrg_oo hq1 hq1
  have C1 := fun w' (hk : Keep w w') => of_any A n1 c1 xs w' (la.up hk) (by omega)
  have C2 := fun w' (hk : Keep w w') => of_any B n2 c2 ys w' (lb.up hk) (by omega)
  have C3 := fun w' (hk : Keep w w') => of_any C n3 c3 zs w' (lc.up hk) (by omega)
  have C4 := fun w' (A' : Option Addr) (c' : Nat) (hl : Lies w' w'.heap.size A' (n1 + n2) (vals .i64 (xs ++ ys))) => of_any A' (n1 + n2) c' (xs ++ ys) w' hl (by omega)
  have k1 : ¬ (100 : Int) < (n1 : Int) := by omega
  have k2 : ¬ (100 : Int) < (n2 : Int) := by omega
  have k3 : ¬ (100 : Int) < (n3 : Int) := by omega
  generalize ofL (xs ++ ys ++ zs) = t at *
  generalize ofL (ys ++ zs) = yz at *
  generalize ofL (xs ++ ys) = M at *
  generalize ofL xs = x at *
  generalize ofL ys = y at *
  generalize ofL zs = z at *
  have HM := Lib.hid (And.intro m1 (And.intro m2 (And.intro m3 (And.intro m4 (And.intro m5 (And.intro m6 (And.intro m7 m8)))))))
  have HC := Lib.hid (And.intro C1 (And.intro C2 (And.intro C3 C4)))
  have HLB := Lib.hid (And.intro la lb)
  clear ia ib ic la lb lc l1 l2 l3 ox m1 m2 m3 m4 m5 m6 m7 m8 iab ibc C1 C2 C3 C4 ra rb rc hq1
  have q1 := equal_ag
  go_enter Try.func7, Try.ntmps7
  go_wp2_with fail
  go_at_call 8
  refine (alive_any _).mono ?_
  rintro e w1 ⟨rfl, hk1⟩
  go_wp2_with fail
  go_at_call 13
  refine (HC.out.1 _ hk1).mono ?_
  rintro e w2 ⟨rfl, hk2⟩
  replace hk2 := hk1.trans hk2
  clear hk1
  go_wp2_with fail
  go_at_call 13
  refine (HC.out.2.1 _ hk2).mono ?_
  rintro e w3 ⟨rfl, hk3⟩
  replace hk3 := hk2.trans hk3
  clear hk2
  go_wp2_with fail
  go_at_call 13
  refine (HC.out.2.2.1 _ hk3).mono ?_
  rintro e w4 ⟨rfl, hk4⟩
  replace hk4 := hk3.trans hk4
  clear hk3
  obtain ⟨bx, by_, bz, bn⟩ := four_new w4 x y z ⟨q, 9, 3, -2⟩
  have hk5 := (((hk4.alloc (.cells #[.int .i64 x.c, .int .i64 x.s, .int .i64 x.mn, .int .i64 x.mx] 24)).alloc (.cells #[.int .i64 y.c, .int .i64 y.s, .int .i64 y.mn, .int .i64 y.mx] 24)).alloc (.cells #[.int .i64 z.c, .int .i64 z.s, .int .i64 z.mn, .int .i64 z.mx] 24)).alloc (.cells #[.int .i64 q, .int .i64 9, .int .i64 3, .int .i64 (-2)] 24)
  clear hk4
  go_wp2_with fail
  generalize (((w4.alloc (.cells #[.int .i64 x.c, .int .i64 x.s, .int .i64 x.mn, .int .i64 x.mx] 24)).alloc (.cells #[.int .i64 y.c, .int .i64 y.s, .int .i64 y.mn, .int .i64 y.mx] 24)).alloc (.cells #[.int .i64 z.c, .int .i64 z.s, .int .i64 z.mn, .int .i64 z.mx] 24)).alloc (.cells #[.int .i64 q, .int .i64 9, .int .i64 3, .int .i64 (-2)] 24) = W5 at *
  have HS := Lib.hid (show ∀ w', Keep W5 w' → Keep W5 w' from fun _ h => h)
  have HB := Lib.hid (show ∀ w', Keep W5 w' → ((w'.cell? ⟨w4.heap.size, 0, none⟩ = some (.int .i64 x.c) ∧ w'.cell? ⟨w4.heap.size, 1, none⟩ = some (.int .i64 x.s) ∧ w'.cell? ⟨w4.heap.size, 2, none⟩ = some (.int .i64 x.mn) ∧ w'.cell? ⟨w4.heap.size, 3, none⟩ = some (.int .i64 x.mx)) ∧ (w'.cell? ⟨w4.heap.size + 1, 0, none⟩ = some (.int .i64 y.c) ∧ w'.cell? ⟨w4.heap.size + 1, 1, none⟩ = some (.int .i64 y.s) ∧ w'.cell? ⟨w4.heap.size + 1, 2, none⟩ = some (.int .i64 y.mn) ∧ w'.cell? ⟨w4.heap.size + 1, 3, none⟩ = some (.int .i64 y.mx)) ∧ (w'.cell? ⟨w4.heap.size + 2, 0, none⟩ = some (.int .i64 z.c) ∧ w'.cell? ⟨w4.heap.size + 2, 1, none⟩ = some (.int .i64 z.s) ∧ w'.cell? ⟨w4.heap.size + 2, 2, none⟩ = some (.int .i64 z.mn) ∧ w'.cell? ⟨w4.heap.size + 2, 3, none⟩ = some (.int .i64 z.mx)) ∧ (w'.cell? ⟨w4.heap.size + 3, 0, none⟩ = some (.int .i64 q) ∧ w'.cell? ⟨w4.heap.size + 3, 1, none⟩ = some (.int .i64 9) ∧ w'.cell? ⟨w4.heap.size + 3, 2, none⟩ = some (.int .i64 3) ∧ w'.cell? ⟨w4.heap.size + 3, 3, none⟩ = some (.int .i64 (-2)))) from fun w' h => ⟨(bx.keep h).cells, (by_.keep h).cells, (bz.keep h).cells, (bn.keep h).cells⟩)
  clear bx by_ bz bn
  have hKc := (Keep.refl W5).drew
  refine seqE_region (S := fun w' => Keep W5 w') [⟨0, 8192, 274877906944⟩, ⟨0, 512, 549755813888⟩, ⟨0, 1024, 1099511627776⟩, ⟨7, 1924145348608, 2199023255552⟩, ⟨0, 8192, 4398046511104⟩, ⟨0, 1024, 8796093022208⟩, ⟨0, 512, 17592186044416⟩, ⟨120, 30786325577728, 35184372088832⟩, ⟨136, 37383395344384, 70368744177664⟩, ⟨384, 70368744177664, 140737488355328⟩, ⟨512, 140737488363520, 281474976710656⟩, ⟨512, 140737488355840, 562949953421312⟩, ⟨512, 140737488363520, 1125899906842624⟩, ⟨512, 140737488356352, 2251799813685248⟩, ⟨512, 140737488357376, 4503599627370496⟩, ⟨29184, 8022036836253696, 9007199254740992⟩, ⟨36352, 9992361673228288, 18014398509481984⟩, ⟨512, 140737488363520, 36028797018963968⟩, ⟨512, 140737488363520, 72057594037927936⟩, ⟨512, 140737488355840, 144115188075855872⟩, ⟨512, 140737488356352, 288230376151711744⟩, ⟨1901056, 504543895753850880, 576460752303423488⟩, ⟨512, 140737488357376, 1152921504606846976⟩, ⟨6423040, 1765551791417589760, 2305843009213693952⟩, ⟨8454656, 2323998145211531264, 4611686018427387904⟩, ⟨16777728, 4611826755915743232, 9223372036854775808⟩, ⟨41943040, 9223372036854775808, 18446744073709551616⟩, ⟨67108864, 18446744073709559808, 36893488147419103232⟩, ⟨67108864, 18446744073709552128, 73786976294838206464⟩, ⟨67108864, 18446744073709555712, 147573952589676412928⟩, ⟨1006632960, 276701161105643274240, 295147905179352825856⟩, ⟨67108864, 18446744073709552128, 590295810358705651712⟩, ⟨3288334336, 903890459611768029184, 1180591620717411303424⟩, ⟨4362076160, 1199038364791120855040, 2361183241434822606848⟩, ⟨9663676416, 2361183241434822606848, 4722366482869645213696⟩, ⟨17179869184, 4722366482869645221888, 9444732965739290427392⟩, ⟨17179869184, 4722366482869645217792, 18889465931478580854784⟩, ⟨17179869184, 4722366482869645214208, 37778931862957161709568⟩, ⟨257698037760, 70835497243044678205440, 75557863725914323419136⟩, ⟨17179869184, 4722366482869645214208, 151115727451828646838272⟩, ⟨841813590016, 231395957660612615471104, 302231454903657293676544⟩, ⟨1116691496960, 306953821386526938890240, 604462909807314587353088⟩, ⟨2473901162496, 604462909807314587353088, 1208925819614629174706176⟩, ⟨4398046511104, 1208925819614629174714368, 2417851639229258349412352⟩, ⟨4398046511104, 1208925819614629174710272, 4835703278458516698824704⟩, ⟨4398046511104, 1208925819614629174710272, 9671406556917033397649408⟩, ⟨65970697666560, 18133887294219437620592640, 19342813113834066795298816⟩, ⟨4398046511104, 1208925819614629174706176, 38685626227668133590597632⟩, ⟨215504279044096, 59237365161116829560602624, 77371252455336267181195264⟩, ⟨285873023221760, 78580178274950896355901440, 154742504910672534362390528⟩, ⟨633318697598976, 154742504910672534362390528, 309485009821345068724781056⟩, ⟨1125899906842624, 309485009821345068724789248, 618970019642690137449562112⟩, ⟨1125899906842624, 309485009821345068724781568, 1237940039285380274899124224⟩, ⟨1125899906842624, 309485009821345068724782080, 2475880078570760549798248448⟩, ⟨16888498602639360, 4642275147320176030871715840, 4951760157141521099596496896⟩, ⟨1125899906842624, 309485009821345068724781056, 9903520314283042199192993792⟩, ⟨1125899906842624, 309485009821345068724781057, 19807040628566084398385987584⟩, ⟨127226689473216512, 30020045952670471666303762432, 39614081257132168796771975168⟩, ⟨1125899906842624, 309485009821345068724781058, 79228162514264337593543950336⟩, ⟨433471464134410240, 119151728781217851459040706560, 158456325028528675187087900672⟩, ⟨577586652210266112, 158765810038350020255812681728, 316912650057057350374175801344⟩, ⟨1172061803023171584, 322173895224020216542497079296, 633825300114114700748351602688⟩, ⟨2306968909120536576, 634134785123936045817076383744, 1267650600228229401496703205376⟩, ⟨9223372036854775807, 1267650600228229401496703205376, 256⟩] [(0, false), (1, false), (2, false), (4, false), (5, false), (6, false), (3, true), (7, true), (8, false), (9, false), (10, false), (11, false), (12, false), (13, false), (14, false), (17, false), (18, false), (19, false), (20, false), (22, false), (15, true), (16, true), (21, true), (23, true), (24, false), (25, false), (26, false), (27, false), (28, false), (29, false), (31, false), (30, true), (32, false), (33, false), (34, false), (35, false), (36, false), (37, false), (39, false), (38, true), (40, false), (41, false), (42, false), (43, false), (44, false), (45, false), (47, false), (46, true), (48, false), (49, false), (50, false), (51, false), (52, false), (53, false), (56, false), (58, false)] rfl (by kernel_rfl) (by kernel_rfl) (fun _ _ d _ _ h => by cases d <;> exact h) hKc ?_
  simp only [rowsOf, rowAt, gslot, List.map_cons, List.map_nil, List.append_eq, List.cons_append, List.nil_append, List.getElem?_toArray, List.getElem?_cons_zero, List.getElem?_cons_succ, Option.bind_some]
  repeat (first
    | (refine seqE_take (v := ?_) (a' := ?_) (by rfl) ?_ ?_ ?_
       rotate_left 2
       · (intro w hSw; have hCw := HB.out w hSw; go_split_ands; go_simp; with_reducible rfl)
       · (simp only [Act.put, List.setIfInBounds_toArray, List.set_cons_zero, List.set_cons_succ]; with_reducible rfl))
    | (refine seqE_callv (f := 15) (args := ?_) (v := ?_) (a' := ?_) (by rfl) (by rfl) (by rfl) Try.call15 ?_ ?_ ?_ ?_
       rotate_left 3
       · (go_simp; with_reducible rfl)
       · ((first
           | (with_reducible refine (merge_is x y M _ HM.out.1).mono ?_)
           | (with_reducible refine (merge_is y x M _ HM.out.2.1).mono ?_)
           | (with_reducible refine (merge_is y z yz _ HM.out.2.2.1).mono ?_)
           | (with_reducible refine (merge_is x yz t _ HM.out.2.2.2.1).mono ?_)
           | (with_reducible refine (merge_is M z t _ HM.out.2.2.2.2.1).mono ?_)
           | (with_reducible refine (merge_n1 x q _ HM.out.2.2.2.2.2.1).mono ?_)
           | (with_reducible refine (merge_n2 x q _ HM.out.2.2.2.2.2.2.1).mono ?_)
           | (with_reducible refine (merge_n3 q _ HM.out.2.2.2.2.2.2.2).mono ?_))
          rintro e w' ⟨rfl, hk⟩
          refine ⟨?_, HS.out _ (hKc.trans hk)⟩
          with_reducible rfl)
       · (simp only [Act.put, List.setIfInBounds_toArray, List.set_cons_zero, List.set_cons_succ]; with_reducible rfl)
       clear hKc
       intro w2 hw2
       have hKc := hw2
       clear hw2)
    | (refine seqE_skip (a' := ?_) (HS.out _ hKc) (by rfl) ?_ ?_
       rotate_left
       · (simp only [Act.put, List.setIfInBounds_toArray, List.set_cons_zero, List.set_cons_succ]; with_reducible rfl)))
  refine seqE_nil ?_
  intro hKd listed hLs hns
  refine wpAnyH_named (fun a0 ha0 => ?_)
  have HA0 := Lib.hid ha0
  have hs0 : a0.tmps.size = 101 := by rw [ha0]; rfl
  have e88 : a0.eval (.tmp 88) = .bool true := by rw [ha0]; rfl
  have e89 : a0.eval (.tmp 89) = .func (.func 15) #[] #[] := by rw [ha0]; rfl
  have e90 : a0.eval (.tmp 90) = .agg #[.int .i64 x.c, .int .i64 x.s, .int .i64 x.mn, .int .i64 x.mx] := by rw [ha0]; rfl
  have e91 : a0.eval (.tmp 91) = .agg #[.int .i64 y.c, .int .i64 y.s, .int .i64 y.mn, .int .i64 y.mx] := by rw [ha0]; rfl
  have e94 : a0.eval (.tmp 94) = .slice A n1 c1 := by rw [ha0]; rfl
  have e96 : a0.eval (.tmp 96) = .slice B n2 c2 := by rw [ha0]; rfl
  clear ha0
  refine merges_rest (W0 := W5) (M := M) (x := x) (y := y) (xs := xs) (ys := ys) [⟨0, 8192, 274877906944⟩, ⟨0, 512, 549755813888⟩, ⟨0, 1024, 1099511627776⟩, ⟨7, 1924145348608, 2199023255552⟩, ⟨0, 8192, 4398046511104⟩, ⟨0, 1024, 8796093022208⟩, ⟨0, 512, 17592186044416⟩, ⟨120, 30786325577728, 35184372088832⟩, ⟨136, 37383395344384, 70368744177664⟩, ⟨384, 70368744177664, 140737488355328⟩, ⟨512, 140737488363520, 281474976710656⟩, ⟨512, 140737488355840, 562949953421312⟩, ⟨512, 140737488363520, 1125899906842624⟩, ⟨512, 140737488356352, 2251799813685248⟩, ⟨512, 140737488357376, 4503599627370496⟩, ⟨29184, 8022036836253696, 9007199254740992⟩, ⟨36352, 9992361673228288, 18014398509481984⟩, ⟨512, 140737488363520, 36028797018963968⟩, ⟨512, 140737488363520, 72057594037927936⟩, ⟨512, 140737488355840, 144115188075855872⟩, ⟨512, 140737488356352, 288230376151711744⟩, ⟨1901056, 504543895753850880, 576460752303423488⟩, ⟨512, 140737488357376, 1152921504606846976⟩, ⟨6423040, 1765551791417589760, 2305843009213693952⟩, ⟨8454656, 2323998145211531264, 4611686018427387904⟩, ⟨16777728, 4611826755915743232, 9223372036854775808⟩, ⟨41943040, 9223372036854775808, 18446744073709551616⟩, ⟨67108864, 18446744073709559808, 36893488147419103232⟩, ⟨67108864, 18446744073709552128, 73786976294838206464⟩, ⟨67108864, 18446744073709555712, 147573952589676412928⟩, ⟨1006632960, 276701161105643274240, 295147905179352825856⟩, ⟨67108864, 18446744073709552128, 590295810358705651712⟩, ⟨3288334336, 903890459611768029184, 1180591620717411303424⟩, ⟨4362076160, 1199038364791120855040, 2361183241434822606848⟩, ⟨9663676416, 2361183241434822606848, 4722366482869645213696⟩, ⟨17179869184, 4722366482869645221888, 9444732965739290427392⟩, ⟨17179869184, 4722366482869645217792, 18889465931478580854784⟩, ⟨17179869184, 4722366482869645214208, 37778931862957161709568⟩, ⟨257698037760, 70835497243044678205440, 75557863725914323419136⟩, ⟨17179869184, 4722366482869645214208, 151115727451828646838272⟩, ⟨841813590016, 231395957660612615471104, 302231454903657293676544⟩, ⟨1116691496960, 306953821386526938890240, 604462909807314587353088⟩, ⟨2473901162496, 604462909807314587353088, 1208925819614629174706176⟩, ⟨4398046511104, 1208925819614629174714368, 2417851639229258349412352⟩, ⟨4398046511104, 1208925819614629174710272, 4835703278458516698824704⟩, ⟨4398046511104, 1208925819614629174710272, 9671406556917033397649408⟩, ⟨65970697666560, 18133887294219437620592640, 19342813113834066795298816⟩, ⟨4398046511104, 1208925819614629174706176, 38685626227668133590597632⟩, ⟨215504279044096, 59237365161116829560602624, 77371252455336267181195264⟩, ⟨285873023221760, 78580178274950896355901440, 154742504910672534362390528⟩, ⟨633318697598976, 154742504910672534362390528, 309485009821345068724781056⟩, ⟨1125899906842624, 309485009821345068724789248, 618970019642690137449562112⟩, ⟨1125899906842624, 309485009821345068724781568, 1237940039285380274899124224⟩, ⟨1125899906842624, 309485009821345068724782080, 2475880078570760549798248448⟩, ⟨16888498602639360, 4642275147320176030871715840, 4951760157141521099596496896⟩, ⟨1125899906842624, 309485009821345068724781056, 9903520314283042199192993792⟩, ⟨1125899906842624, 309485009821345068724781057, 19807040628566084398385987584⟩, ⟨127226689473216512, 30020045952670471666303762432, 39614081257132168796771975168⟩, ⟨1125899906842624, 309485009821345068724781058, 79228162514264337593543950336⟩, ⟨433471464134410240, 119151728781217851459040706560, 158456325028528675187087900672⟩, ⟨577586652210266112, 158765810038350020255812681728, 316912650057057350374175801344⟩, ⟨1172061803023171584, 322173895224020216542497079296, 633825300114114700748351602688⟩, ⟨2306968909120536576, 634134785123936045817076383744, 1267650600228229401496703205376⟩, ⟨9223372036854775807, 1267650600228229401496703205376, 256⟩] (eqM_spec _ _ _ (by kernel_rfl)) (by kernel_rfl) rfl hs0 ⟨_, rfl, rfl, rfl, rfl⟩ ⟨_, rfl, rfl, rfl, rfl⟩ ⟨_, rfl, rfl, rfl, rfl⟩ ⟨_, rfl, rfl, rfl, rfl⟩ ⟨_, rfl, rfl, rfl, rfl⟩ ⟨_, rfl, rfl, rfl, rfl⟩ ⟨_, rfl, rfl, rfl, rfl⟩ ⟨_, rfl, rfl, rfl, rfl⟩
    (fun m h => by obtain rfl := Option.some.inj h; decide) (fun m h => by obtain rfl := Option.some.inj h; decide) (fun m h => by obtain rfl := Option.some.inj h; decide) (fun m h => by obtain rfl := Option.some.inj h; decide) (fun m h => by obtain rfl := Option.some.inj h; decide) (fun m h => by obtain rfl := Option.some.inj h; decide)
    e88 e89 e90 e91 e94 e96 (fun w' => merge_is x y M w' HM.out.1) HC.out.2.2.2 (HLB.out.1.up hk5) (HLB.out.2.up hk5) na nb g1 g2 ?_ listed _ hLs hns hKd _ rfl
  intro v5 v7 v9 w9 hk9
  simp only [putAll, List.foldl_cons, List.foldl_nil]
  rw [show mgVal M v5 v7 v9 63 = .bool true from rfl]
  rw [HA0.out]
  simp only [Act.put, List.setIfInBounds_toArray, List.set_cons_zero, List.set_cons_succ]
  go_wp2
  go_ret
  exact ⟨rfl, hk5.trans hk9⟩

set_option maxRecDepth 100000 in
set_option maxHeartbeats 8000000 in
theorem merges_eq (A B C : Option Addr) (n1 n2 n3 c1 c2 c3 : Nat) (xs ys zs : List Int) (w : World) (ra : Arr .i64 w A n1 xs) (rb : Arr .i64 w B n2 ys) (rc : Arr .i64 w C n3 zs) (na : A = none → c1 = 0) (nb : B = none → c2 = 0)
    (g1 : n1 ≤ 100) (g2 : n2 ≤ 100) (g3 : n3 ≤ 100) :
    Calls Try.prog 7 #[.slice A n1 c1, .slice B n2 c2, .slice C n3 c3, .int .i64 0] w fun e w' => e = .returned (.bool true) ∧ Keep w w' := by
  have ia := ra.in
  have ib := rb.in
  have ic := rc.in
  have la := ra.2.1
  have lb := rb.2.1
  have lc := rc.2.1
  have l1 : xs.length = n1 := by have := la.1; rwa [vals_length] at this
  have l2 : ys.length = n2 := by have := lb.1; rwa [vals_length] at this
  have l3 : zs.length = n3 := by have := lc.1; rwa [vals_length] at this
  have hq1 : (0 : Int) < 1 := by decide
  have ox := isOf xs (by omega) ia
  have m1 : mrg (ofL xs) (ofL ys) = ofL (xs ++ ys) := ofL_cat (by omega) ia ib
  have m2 : mrg (ofL ys) (ofL xs) = ofL (xs ++ ys) := ofL_comm (by omega) ia ib
  have m3 : mrg (ofL ys) (ofL zs) = ofL (ys ++ zs) := ofL_cat (by omega) ib ic
  have iab : ∀ z ∈ xs ++ ys, inI z := fun z hz => (List.mem_append.1 hz).elim (ia z) (ib z)
  have ibc : ∀ z ∈ ys ++ zs, inI z := fun z hz => (List.mem_append.1 hz).elim (ib z) (ic z)
  have m4 : mrg (ofL xs) (ofL (ys ++ zs)) = ofL (xs ++ ys ++ zs) := by rw [ofL_cat (by rw [List.length_append]; omega) ia ibc, List.append_assoc]
  have m5 : mrg (ofL (xs ++ ys)) (ofL zs) = ofL (xs ++ ys ++ zs) := ofL_cat (by rw [List.length_append]; omega) iab ic
  obtain ⟨m6, m7⟩ := mrg_nothing ox (0 : Int) hq1
  have m8 : mrg (⟨(0 : Int), 9, 3, -2⟩ : Ag) ⟨(0 : Int), 9, 3, -2⟩ = ⟨0, 0, 0, 0⟩ := mrg_oo hq1 hq1
  have C1 := fun w' (hk : Keep w w') => of_any A n1 c1 xs w' (la.up hk) (by omega)
  have C2 := fun w' (hk : Keep w w') => of_any B n2 c2 ys w' (lb.up hk) (by omega)
  have C3 := fun w' (hk : Keep w w') => of_any C n3 c3 zs w' (lc.up hk) (by omega)
  have C4 := fun w' (A' : Option Addr) (c' : Nat) (hl : Lies w' w'.heap.size A' (n1 + n2) (vals .i64 (xs ++ ys))) => of_any A' (n1 + n2) c' (xs ++ ys) w' hl (by omega)
  have k1 : ¬ (100 : Int) < (n1 : Int) := by omega
  have k2 : ¬ (100 : Int) < (n2 : Int) := by omega
  have k3 : ¬ (100 : Int) < (n3 : Int) := by omega
  generalize ofL (xs ++ ys ++ zs) = t at *
  generalize ofL (ys ++ zs) = yz at *
  generalize ofL (xs ++ ys) = M at *
  generalize ofL xs = x at *
  generalize ofL ys = y at *
  generalize ofL zs = z at *
  have HM := Lib.hid (And.intro m1 (And.intro m2 (And.intro m3 (And.intro m4 (And.intro m5 (And.intro m6 (And.intro m7 m8)))))))
  have HC := Lib.hid (And.intro C1 (And.intro C2 (And.intro C3 C4)))
  have HLB := Lib.hid (And.intro la lb)
  clear ia ib ic la lb lc l1 l2 l3 ox m1 m2 m3 m4 m5 m6 m7 m8 iab ibc C1 C2 C3 C4 ra rb rc hq1
  have q1 := equal_ag
  go_enter Try.func7, Try.ntmps7
  go_wp2_with fail
  go_at_call 8
  refine (alive_any _).mono ?_
  rintro e w1 ⟨rfl, hk1⟩
  go_wp2_with fail
  go_at_call 13
  refine (HC.out.1 _ hk1).mono ?_
  rintro e w2 ⟨rfl, hk2⟩
  replace hk2 := hk1.trans hk2
  clear hk1
  go_wp2_with fail
  go_at_call 13
  refine (HC.out.2.1 _ hk2).mono ?_
  rintro e w3 ⟨rfl, hk3⟩
  replace hk3 := hk2.trans hk3
  clear hk2
  go_wp2_with fail
  go_at_call 13
  refine (HC.out.2.2.1 _ hk3).mono ?_
  rintro e w4 ⟨rfl, hk4⟩
  replace hk4 := hk3.trans hk4
  clear hk3
  obtain ⟨bx, by_, bz, bn⟩ := four_new w4 x y z ⟨0, 9, 3, -2⟩
  have hk5 := (((hk4.alloc (.cells #[.int .i64 x.c, .int .i64 x.s, .int .i64 x.mn, .int .i64 x.mx] 24)).alloc (.cells #[.int .i64 y.c, .int .i64 y.s, .int .i64 y.mn, .int .i64 y.mx] 24)).alloc (.cells #[.int .i64 z.c, .int .i64 z.s, .int .i64 z.mn, .int .i64 z.mx] 24)).alloc (.cells #[.int .i64 0, .int .i64 9, .int .i64 3, .int .i64 (-2)] 24)
  clear hk4
  go_wp2_with fail
  generalize (((w4.alloc (.cells #[.int .i64 x.c, .int .i64 x.s, .int .i64 x.mn, .int .i64 x.mx] 24)).alloc (.cells #[.int .i64 y.c, .int .i64 y.s, .int .i64 y.mn, .int .i64 y.mx] 24)).alloc (.cells #[.int .i64 z.c, .int .i64 z.s, .int .i64 z.mn, .int .i64 z.mx] 24)).alloc (.cells #[.int .i64 0, .int .i64 9, .int .i64 3, .int .i64 (-2)] 24) = W5 at *
  have HS := Lib.hid (show ∀ w', Keep W5 w' → Keep W5 w' from fun _ h => h)
  have HB := Lib.hid (show ∀ w', Keep W5 w' → ((w'.cell? ⟨w4.heap.size, 0, none⟩ = some (.int .i64 x.c) ∧ w'.cell? ⟨w4.heap.size, 1, none⟩ = some (.int .i64 x.s) ∧ w'.cell? ⟨w4.heap.size, 2, none⟩ = some (.int .i64 x.mn) ∧ w'.cell? ⟨w4.heap.size, 3, none⟩ = some (.int .i64 x.mx)) ∧ (w'.cell? ⟨w4.heap.size + 1, 0, none⟩ = some (.int .i64 y.c) ∧ w'.cell? ⟨w4.heap.size + 1, 1, none⟩ = some (.int .i64 y.s) ∧ w'.cell? ⟨w4.heap.size + 1, 2, none⟩ = some (.int .i64 y.mn) ∧ w'.cell? ⟨w4.heap.size + 1, 3, none⟩ = some (.int .i64 y.mx)) ∧ (w'.cell? ⟨w4.heap.size + 2, 0, none⟩ = some (.int .i64 z.c) ∧ w'.cell? ⟨w4.heap.size + 2, 1, none⟩ = some (.int .i64 z.s) ∧ w'.cell? ⟨w4.heap.size + 2, 2, none⟩ = some (.int .i64 z.mn) ∧ w'.cell? ⟨w4.heap.size + 2, 3, none⟩ = some (.int .i64 z.mx)) ∧ (w'.cell? ⟨w4.heap.size + 3, 0, none⟩ = some (.int .i64 0) ∧ w'.cell? ⟨w4.heap.size + 3, 1, none⟩ = some (.int .i64 9) ∧ w'.cell? ⟨w4.heap.size + 3, 2, none⟩ = some (.int .i64 3) ∧ w'.cell? ⟨w4.heap.size + 3, 3, none⟩ = some (.int .i64 (-2)))) from fun w' h => ⟨(bx.keep h).cells, (by_.keep h).cells, (bz.keep h).cells, (bn.keep h).cells⟩)
  clear bx by_ bz bn
  have hKc := (Keep.refl W5).drew
  refine seqE_region (S := fun w' => Keep W5 w') [⟨0, 8192, 274877906944⟩, ⟨0, 512, 549755813888⟩, ⟨0, 1024, 1099511627776⟩, ⟨7, 1924145348608, 2199023255552⟩, ⟨0, 8192, 4398046511104⟩, ⟨0, 1024, 8796093022208⟩, ⟨0, 512, 17592186044416⟩, ⟨120, 30786325577728, 35184372088832⟩, ⟨136, 37383395344384, 70368744177664⟩, ⟨384, 70368744177664, 140737488355328⟩, ⟨512, 140737488363520, 281474976710656⟩, ⟨512, 140737488355840, 562949953421312⟩, ⟨512, 140737488363520, 1125899906842624⟩, ⟨512, 140737488356352, 2251799813685248⟩, ⟨512, 140737488357376, 4503599627370496⟩, ⟨29184, 8022036836253696, 9007199254740992⟩, ⟨36352, 9992361673228288, 18014398509481984⟩, ⟨512, 140737488363520, 36028797018963968⟩, ⟨512, 140737488363520, 72057594037927936⟩, ⟨512, 140737488355840, 144115188075855872⟩, ⟨512, 140737488356352, 288230376151711744⟩, ⟨1901056, 504543895753850880, 576460752303423488⟩, ⟨512, 140737488357376, 1152921504606846976⟩, ⟨6423040, 1765551791417589760, 2305843009213693952⟩, ⟨8454656, 2323998145211531264, 4611686018427387904⟩, ⟨16777728, 4611826755915743232, 9223372036854775808⟩, ⟨41943040, 9223372036854775808, 18446744073709551616⟩, ⟨67108864, 18446744073709559808, 36893488147419103232⟩, ⟨67108864, 18446744073709552128, 73786976294838206464⟩, ⟨67108864, 18446744073709555712, 147573952589676412928⟩, ⟨1006632960, 276701161105643274240, 295147905179352825856⟩, ⟨67108864, 18446744073709552128, 590295810358705651712⟩, ⟨3288334336, 903890459611768029184, 1180591620717411303424⟩, ⟨4362076160, 1199038364791120855040, 2361183241434822606848⟩, ⟨9663676416, 2361183241434822606848, 4722366482869645213696⟩, ⟨17179869184, 4722366482869645221888, 9444732965739290427392⟩, ⟨17179869184, 4722366482869645217792, 18889465931478580854784⟩, ⟨17179869184, 4722366482869645214208, 37778931862957161709568⟩, ⟨257698037760, 70835497243044678205440, 75557863725914323419136⟩, ⟨17179869184, 4722366482869645214208, 151115727451828646838272⟩, ⟨841813590016, 231395957660612615471104, 302231454903657293676544⟩, ⟨1116691496960, 306953821386526938890240, 604462909807314587353088⟩, ⟨2473901162496, 604462909807314587353088, 1208925819614629174706176⟩, ⟨4398046511104, 1208925819614629174714368, 2417851639229258349412352⟩, ⟨4398046511104, 1208925819614629174710272, 4835703278458516698824704⟩, ⟨4398046511104, 1208925819614629174710272, 9671406556917033397649408⟩, ⟨65970697666560, 18133887294219437620592640, 19342813113834066795298816⟩, ⟨4398046511104, 1208925819614629174706176, 38685626227668133590597632⟩, ⟨215504279044096, 59237365161116829560602624, 77371252455336267181195264⟩, ⟨285873023221760, 78580178274950896355901440, 154742504910672534362390528⟩, ⟨633318697598976, 154742504910672534362390528, 309485009821345068724781056⟩, ⟨1125899906842624, 309485009821345068724789248, 618970019642690137449562112⟩, ⟨1125899906842624, 309485009821345068724781568, 1237940039285380274899124224⟩, ⟨1125899906842624, 309485009821345068724782080, 2475880078570760549798248448⟩, ⟨16888498602639360, 4642275147320176030871715840, 4951760157141521099596496896⟩, ⟨1125899906842624, 309485009821345068724781056, 9903520314283042199192993792⟩, ⟨1125899906842624, 309485009821345068724781057, 19807040628566084398385987584⟩, ⟨127226689473216512, 30020045952670471666303762432, 39614081257132168796771975168⟩, ⟨1125899906842624, 309485009821345068724781058, 79228162514264337593543950336⟩, ⟨433471464134410240, 119151728781217851459040706560, 158456325028528675187087900672⟩, ⟨577586652210266112, 158765810038350020255812681728, 316912650057057350374175801344⟩, ⟨1172061803023171584, 322173895224020216542497079296, 633825300114114700748351602688⟩, ⟨2306968909120536576, 634134785123936045817076383744, 1267650600228229401496703205376⟩, ⟨9223372036854775807, 1267650600228229401496703205376, 256⟩] [(0, false), (1, false), (2, false), (4, false), (5, false), (6, false), (3, true), (7, true), (8, false), (9, false), (10, false), (11, false), (12, false), (13, false), (14, false), (17, false), (18, false), (19, false), (20, false), (22, false), (15, true), (16, true), (21, true), (23, true), (24, false), (25, false), (26, false), (27, false), (28, false), (29, false), (31, false), (30, true), (32, false), (33, false), (34, false), (35, false), (36, false), (37, false), (39, false), (38, true), (40, false), (41, false), (42, false), (43, false), (44, false), (45, false), (47, false), (46, true), (48, false), (49, false), (50, false), (51, false), (52, false), (53, false), (56, false), (58, false)] rfl (by kernel_rfl) (by kernel_rfl) (fun _ _ d _ _ h => by cases d <;> exact h) hKc ?_
  simp only [rowsOf, rowAt, gslot, List.map_cons, List.map_nil, List.append_eq, List.cons_append, List.nil_append, List.getElem?_toArray, List.getElem?_cons_zero, List.getElem?_cons_succ, Option.bind_some]
  repeat (first
    | (refine seqE_take (v := ?_) (a' := ?_) (by rfl) ?_ ?_ ?_
       rotate_left 2
       · (intro w hSw; have hCw := HB.out w hSw; go_split_ands; go_simp; with_reducible rfl)
       · (simp only [Act.put, List.setIfInBounds_toArray, List.set_cons_zero, List.set_cons_succ]; with_reducible rfl))
    | (refine seqE_callv (f := 15) (args := ?_) (v := ?_) (a' := ?_) (by rfl) (by rfl) (by rfl) Try.call15 ?_ ?_ ?_ ?_
       rotate_left 3
       · (go_simp; with_reducible rfl)
       · ((first
           | (with_reducible refine (merge_is x y M _ HM.out.1).mono ?_)
           | (with_reducible refine (merge_is y x M _ HM.out.2.1).mono ?_)
           | (with_reducible refine (merge_is y z yz _ HM.out.2.2.1).mono ?_)
           | (with_reducible refine (merge_is x yz t _ HM.out.2.2.2.1).mono ?_)
           | (with_reducible refine (merge_is M z t _ HM.out.2.2.2.2.1).mono ?_)
           | (with_reducible refine (merge_n1 x 0 _ HM.out.2.2.2.2.2.1).mono ?_)
           | (with_reducible refine (merge_n2 x 0 _ HM.out.2.2.2.2.2.2.1).mono ?_)
           | (with_reducible refine (merge_n3 0 _ HM.out.2.2.2.2.2.2.2).mono ?_))
          rintro e w' ⟨rfl, hk⟩
          refine ⟨?_, HS.out _ (hKc.trans hk)⟩
          with_reducible rfl)
       · (simp only [Act.put, List.setIfInBounds_toArray, List.set_cons_zero, List.set_cons_succ]; with_reducible rfl)
       clear hKc
       intro w2 hw2
       have hKc := hw2
       clear hw2)
    | (refine seqE_skip (a' := ?_) (HS.out _ hKc) (by rfl) ?_ ?_
       rotate_left
       · (simp only [Act.put, List.setIfInBounds_toArray, List.set_cons_zero, List.set_cons_succ]; with_reducible rfl)))
  refine seqE_nil ?_
  intro hKd listed hLs hns
  refine wpAnyH_named (fun a0 ha0 => ?_)
  have HA0 := Lib.hid ha0
  have hs0 : a0.tmps.size = 101 := by rw [ha0]; rfl
  have e88 : a0.eval (.tmp 88) = .bool true := by rw [ha0]; rfl
  have e89 : a0.eval (.tmp 89) = .func (.func 15) #[] #[] := by rw [ha0]; rfl
  have e90 : a0.eval (.tmp 90) = .agg #[.int .i64 x.c, .int .i64 x.s, .int .i64 x.mn, .int .i64 x.mx] := by rw [ha0]; rfl
  have e91 : a0.eval (.tmp 91) = .agg #[.int .i64 y.c, .int .i64 y.s, .int .i64 y.mn, .int .i64 y.mx] := by rw [ha0]; rfl
  have e94 : a0.eval (.tmp 94) = .slice A n1 c1 := by rw [ha0]; rfl
  have e96 : a0.eval (.tmp 96) = .slice B n2 c2 := by rw [ha0]; rfl
  clear ha0
  refine merges_rest (W0 := W5) (M := M) (x := x) (y := y) (xs := xs) (ys := ys) [⟨0, 8192, 274877906944⟩, ⟨0, 512, 549755813888⟩, ⟨0, 1024, 1099511627776⟩, ⟨7, 1924145348608, 2199023255552⟩, ⟨0, 8192, 4398046511104⟩, ⟨0, 1024, 8796093022208⟩, ⟨0, 512, 17592186044416⟩, ⟨120, 30786325577728, 35184372088832⟩, ⟨136, 37383395344384, 70368744177664⟩, ⟨384, 70368744177664, 140737488355328⟩, ⟨512, 140737488363520, 281474976710656⟩, ⟨512, 140737488355840, 562949953421312⟩, ⟨512, 140737488363520, 1125899906842624⟩, ⟨512, 140737488356352, 2251799813685248⟩, ⟨512, 140737488357376, 4503599627370496⟩, ⟨29184, 8022036836253696, 9007199254740992⟩, ⟨36352, 9992361673228288, 18014398509481984⟩, ⟨512, 140737488363520, 36028797018963968⟩, ⟨512, 140737488363520, 72057594037927936⟩, ⟨512, 140737488355840, 144115188075855872⟩, ⟨512, 140737488356352, 288230376151711744⟩, ⟨1901056, 504543895753850880, 576460752303423488⟩, ⟨512, 140737488357376, 1152921504606846976⟩, ⟨6423040, 1765551791417589760, 2305843009213693952⟩, ⟨8454656, 2323998145211531264, 4611686018427387904⟩, ⟨16777728, 4611826755915743232, 9223372036854775808⟩, ⟨41943040, 9223372036854775808, 18446744073709551616⟩, ⟨67108864, 18446744073709559808, 36893488147419103232⟩, ⟨67108864, 18446744073709552128, 73786976294838206464⟩, ⟨67108864, 18446744073709555712, 147573952589676412928⟩, ⟨1006632960, 276701161105643274240, 295147905179352825856⟩, ⟨67108864, 18446744073709552128, 590295810358705651712⟩, ⟨3288334336, 903890459611768029184, 1180591620717411303424⟩, ⟨4362076160, 1199038364791120855040, 2361183241434822606848⟩, ⟨9663676416, 2361183241434822606848, 4722366482869645213696⟩, ⟨17179869184, 4722366482869645221888, 9444732965739290427392⟩, ⟨17179869184, 4722366482869645217792, 18889465931478580854784⟩, ⟨17179869184, 4722366482869645214208, 37778931862957161709568⟩, ⟨257698037760, 70835497243044678205440, 75557863725914323419136⟩, ⟨17179869184, 4722366482869645214208, 151115727451828646838272⟩, ⟨841813590016, 231395957660612615471104, 302231454903657293676544⟩, ⟨1116691496960, 306953821386526938890240, 604462909807314587353088⟩, ⟨2473901162496, 604462909807314587353088, 1208925819614629174706176⟩, ⟨4398046511104, 1208925819614629174714368, 2417851639229258349412352⟩, ⟨4398046511104, 1208925819614629174710272, 4835703278458516698824704⟩, ⟨4398046511104, 1208925819614629174710272, 9671406556917033397649408⟩, ⟨65970697666560, 18133887294219437620592640, 19342813113834066795298816⟩, ⟨4398046511104, 1208925819614629174706176, 38685626227668133590597632⟩, ⟨215504279044096, 59237365161116829560602624, 77371252455336267181195264⟩, ⟨285873023221760, 78580178274950896355901440, 154742504910672534362390528⟩, ⟨633318697598976, 154742504910672534362390528, 309485009821345068724781056⟩, ⟨1125899906842624, 309485009821345068724789248, 618970019642690137449562112⟩, ⟨1125899906842624, 309485009821345068724781568, 1237940039285380274899124224⟩, ⟨1125899906842624, 309485009821345068724782080, 2475880078570760549798248448⟩, ⟨16888498602639360, 4642275147320176030871715840, 4951760157141521099596496896⟩, ⟨1125899906842624, 309485009821345068724781056, 9903520314283042199192993792⟩, ⟨1125899906842624, 309485009821345068724781057, 19807040628566084398385987584⟩, ⟨127226689473216512, 30020045952670471666303762432, 39614081257132168796771975168⟩, ⟨1125899906842624, 309485009821345068724781058, 79228162514264337593543950336⟩, ⟨433471464134410240, 119151728781217851459040706560, 158456325028528675187087900672⟩, ⟨577586652210266112, 158765810038350020255812681728, 316912650057057350374175801344⟩, ⟨1172061803023171584, 322173895224020216542497079296, 633825300114114700748351602688⟩, ⟨2306968909120536576, 634134785123936045817076383744, 1267650600228229401496703205376⟩, ⟨9223372036854775807, 1267650600228229401496703205376, 256⟩] (eqM_spec _ _ _ (by kernel_rfl)) (by kernel_rfl) rfl hs0 ⟨_, rfl, rfl, rfl, rfl⟩ ⟨_, rfl, rfl, rfl, rfl⟩ ⟨_, rfl, rfl, rfl, rfl⟩ ⟨_, rfl, rfl, rfl, rfl⟩ ⟨_, rfl, rfl, rfl, rfl⟩ ⟨_, rfl, rfl, rfl, rfl⟩ ⟨_, rfl, rfl, rfl, rfl⟩ ⟨_, rfl, rfl, rfl, rfl⟩
    (fun m h => by obtain rfl := Option.some.inj h; decide) (fun m h => by obtain rfl := Option.some.inj h; decide) (fun m h => by obtain rfl := Option.some.inj h; decide) (fun m h => by obtain rfl := Option.some.inj h; decide) (fun m h => by obtain rfl := Option.some.inj h; decide) (fun m h => by obtain rfl := Option.some.inj h; decide)
    e88 e89 e90 e91 e94 e96 (fun w' => merge_is x y M w' HM.out.1) HC.out.2.2.2 (HLB.out.1.up hk5) (HLB.out.2.up hk5) na nb g1 g2 ?_ listed _ hLs hns hKd _ rfl
  intro v5 v7 v9 w9 hk9
  simp only [putAll, List.foldl_cons, List.foldl_nil]
  rw [show mgVal M v5 v7 v9 63 = .bool true from rfl]
  rw [HA0.out]
  simp only [Act.put, List.setIfInBounds_toArray, List.set_cons_zero, List.set_cons_succ]
  go_wp2
  go_ret
  exact ⟨rfl, hk5.trans hk9⟩

set_option maxRecDepth 100000 in
set_option maxHeartbeats 8000000 in
theorem merges_gt (A B C : Option Addr) (n1 n2 n3 c1 c2 c3 : Nat) (xs ys zs : List Int) (q : Int) (w : World) (ra : Arr .i64 w A n1 xs) (rb : Arr .i64 w B n2 ys) (rc : Arr .i64 w C n3 zs) (na : A = none → c1 = 0) (nb : B = none → c2 = 0)
    (g1 : n1 ≤ 100) (g2 : n2 ≤ 100) (g3 : n3 ≤ 100) (hqq : 0 < q) :
    Calls Try.prog 7 #[.slice A n1 c1, .slice B n2 c2, .slice C n3 c3, .int .i64 q] w fun e w' => e = .returned (.bool true) ∧ Keep w w' := by
  have ia := ra.in
  have ib := rb.in
  have ic := rc.in
  have la := ra.2.1
  have lb := rb.2.1
  have lc := rc.2.1
  have l1 : xs.length = n1 := by have := la.1; rwa [vals_length] at this
  have l2 : ys.length = n2 := by have := lb.1; rwa [vals_length] at this
  have l3 : zs.length = n3 := by have := lc.1; rwa [vals_length] at this
  have hq1 : (0 : Int) < 1 := by decide
  have ox := isOf xs (by omega) ia
  have m1 : mrg (ofL xs) (ofL ys) = ofL (xs ++ ys) := ofL_cat (by omega) ia ib
  have m2 : mrg (ofL ys) (ofL xs) = ofL (xs ++ ys) := ofL_comm (by omega) ia ib
  have m3 : mrg (ofL ys) (ofL zs) = ofL (ys ++ zs) := ofL_cat (by omega) ib ic
  have iab : ∀ z ∈ xs ++ ys, inI z := fun z hz => (List.mem_append.1 hz).elim (ia z) (ib z)
  have ibc : ∀ z ∈ ys ++ zs, inI z := fun z hz => (List.mem_append.1 hz).elim (ib z) (ic z)
  have m4 : mrg (ofL xs) (ofL (ys ++ zs)) = ofL (xs ++ ys ++ zs) := by rw [ofL_cat (by rw [List.length_append]; omega) ia ibc, List.append_assoc]
  have m5 : mrg (ofL (xs ++ ys)) (ofL zs) = ofL (xs ++ ys ++ zs) := ofL_cat (by rw [List.length_append]; omega) iab ic
  obtain ⟨m6, m7⟩ := mrg_nothing ox (0 : Int) hq1
  have m8 : mrg (⟨(0 : Int), 9, 3, -2⟩ : Ag) ⟨(0 : Int), 9, 3, -2⟩ = ⟨0, 0, 0, 0⟩ := mrg_oo hq1 hq1
  have C1 := fun w' (hk : Keep w w') => of_any A n1 c1 xs w' (la.up hk) (by omega)
  have C2 := fun w' (hk : Keep w w') => of_any B n2 c2 ys w' (lb.up hk) (by omega)
  have C3 := fun w' (hk : Keep w w') => of_any C n3 c3 zs w' (lc.up hk) (by omega)
  have C4 := fun w' (A' : Option Addr) (c' : Nat) (hl : Lies w' w'.heap.size A' (n1 + n2) (vals .i64 (xs ++ ys))) => of_any A' (n1 + n2) c' (xs ++ ys) w' hl (by omega)
  have k1 : ¬ (100 : Int) < (n1 : Int) := by omega
  have k2 : ¬ (100 : Int) < (n2 : Int) := by omega
  have k3 : ¬ (100 : Int) < (n3 : Int) := by omega
  generalize ofL (xs ++ ys ++ zs) = t at *
  generalize ofL (ys ++ zs) = yz at *
  generalize ofL (xs ++ ys) = M at *
  generalize ofL xs = x at *
  generalize ofL ys = y at *
  generalize ofL zs = z at *
  have HM := Lib.hid (And.intro m1 (And.intro m2 (And.intro m3 (And.intro m4 (And.intro m5 (And.intro m6 (And.intro m7 m8)))))))
  have HC := Lib.hid (And.intro C1 (And.intro C2 (And.intro C3 C4)))
  have HLB := Lib.hid (And.intro la lb)
  clear ia ib ic la lb lc l1 l2 l3 ox m1 m2 m3 m4 m5 m6 m7 m8 iab ibc C1 C2 C3 C4 ra rb rc hq1
  have q1 := equal_ag
  go_enter Try.func7, Try.ntmps7
  go_wp2_with fail
  go_at_call 8
  refine (alive_any _).mono ?_
  rintro e w1 ⟨rfl, hk1⟩
  go_wp2_with fail
  go_at_call 13
  refine (HC.out.1 _ hk1).mono ?_
  rintro e w2 ⟨rfl, hk2⟩
  replace hk2 := hk1.trans hk2
  clear hk1
  go_wp2_with fail
  go_at_call 13
  refine (HC.out.2.1 _ hk2).mono ?_
  rintro e w3 ⟨rfl, hk3⟩
  replace hk3 := hk2.trans hk3
  clear hk2
  go_wp2_with fail
  go_at_call 13
  refine (HC.out.2.2.1 _ hk3).mono ?_
  rintro e w4 ⟨rfl, hk4⟩
  replace hk4 := hk3.trans hk4
  clear hk3
  obtain ⟨bx, by_, bz, bn⟩ := four_new w4 x y z ⟨0, 9, 3, -2⟩
  have hk5 := (((hk4.alloc (.cells #[.int .i64 x.c, .int .i64 x.s, .int .i64 x.mn, .int .i64 x.mx] 24)).alloc (.cells #[.int .i64 y.c, .int .i64 y.s, .int .i64 y.mn, .int .i64 y.mx] 24)).alloc (.cells #[.int .i64 z.c, .int .i64 z.s, .int .i64 z.mn, .int .i64 z.mx] 24)).alloc (.cells #[.int .i64 0, .int .i64 9, .int .i64 3, .int .i64 (-2)] 24)
  clear hk4
  go_wp2_with fail
  generalize (((w4.alloc (.cells #[.int .i64 x.c, .int .i64 x.s, .int .i64 x.mn, .int .i64 x.mx] 24)).alloc (.cells #[.int .i64 y.c, .int .i64 y.s, .int .i64 y.mn, .int .i64 y.mx] 24)).alloc (.cells #[.int .i64 z.c, .int .i64 z.s, .int .i64 z.mn, .int .i64 z.mx] 24)).alloc (.cells #[.int .i64 0, .int .i64 9, .int .i64 3, .int .i64 (-2)] 24) = W5 at *
  have HS := Lib.hid (show ∀ w', Keep W5 w' → Keep W5 w' from fun _ h => h)
  have HB := Lib.hid (show ∀ w', Keep W5 w' → ((w'.cell? ⟨w4.heap.size, 0, none⟩ = some (.int .i64 x.c) ∧ w'.cell? ⟨w4.heap.size, 1, none⟩ = some (.int .i64 x.s) ∧ w'.cell? ⟨w4.heap.size, 2, none⟩ = some (.int .i64 x.mn) ∧ w'.cell? ⟨w4.heap.size, 3, none⟩ = some (.int .i64 x.mx)) ∧ (w'.cell? ⟨w4.heap.size + 1, 0, none⟩ = some (.int .i64 y.c) ∧ w'.cell? ⟨w4.heap.size + 1, 1, none⟩ = some (.int .i64 y.s) ∧ w'.cell? ⟨w4.heap.size + 1, 2, none⟩ = some (.int .i64 y.mn) ∧ w'.cell? ⟨w4.heap.size + 1, 3, none⟩ = some (.int .i64 y.mx)) ∧ (w'.cell? ⟨w4.heap.size + 2, 0, none⟩ = some (.int .i64 z.c) ∧ w'.cell? ⟨w4.heap.size + 2, 1, none⟩ = some (.int .i64 z.s) ∧ w'.cell? ⟨w4.heap.size + 2, 2, none⟩ = some (.int .i64 z.mn) ∧ w'.cell? ⟨w4.heap.size + 2, 3, none⟩ = some (.int .i64 z.mx)) ∧ (w'.cell? ⟨w4.heap.size + 3, 0, none⟩ = some (.int .i64 0) ∧ w'.cell? ⟨w4.heap.size + 3, 1, none⟩ = some (.int .i64 9) ∧ w'.cell? ⟨w4.heap.size + 3, 2, none⟩ = some (.int .i64 3) ∧ w'.cell? ⟨w4.heap.size + 3, 3, none⟩ = some (.int .i64 (-2)))) from fun w' h => ⟨(bx.keep h).cells, (by_.keep h).cells, (bz.keep h).cells, (bn.keep h).cells⟩)
  clear bx by_ bz bn
  have hKc := (Keep.refl W5).drew
  refine seqE_region (S := fun w' => Keep W5 w') [⟨0, 8192, 274877906944⟩, ⟨0, 512, 549755813888⟩, ⟨0, 1024, 1099511627776⟩, ⟨7, 1924145348608, 2199023255552⟩, ⟨0, 8192, 4398046511104⟩, ⟨0, 1024, 8796093022208⟩, ⟨0, 512, 17592186044416⟩, ⟨120, 30786325577728, 35184372088832⟩, ⟨136, 37383395344384, 70368744177664⟩, ⟨384, 70368744177664, 140737488355328⟩, ⟨512, 140737488363520, 281474976710656⟩, ⟨512, 140737488355840, 562949953421312⟩, ⟨512, 140737488363520, 1125899906842624⟩, ⟨512, 140737488356352, 2251799813685248⟩, ⟨512, 140737488357376, 4503599627370496⟩, ⟨29184, 8022036836253696, 9007199254740992⟩, ⟨36352, 9992361673228288, 18014398509481984⟩, ⟨512, 140737488363520, 36028797018963968⟩, ⟨512, 140737488363520, 72057594037927936⟩, ⟨512, 140737488355840, 144115188075855872⟩, ⟨512, 140737488356352, 288230376151711744⟩, ⟨1901056, 504543895753850880, 576460752303423488⟩, ⟨512, 140737488357376, 1152921504606846976⟩, ⟨6423040, 1765551791417589760, 2305843009213693952⟩, ⟨8454656, 2323998145211531264, 4611686018427387904⟩, ⟨16777728, 4611826755915743232, 9223372036854775808⟩, ⟨41943040, 9223372036854775808, 18446744073709551616⟩, ⟨67108864, 18446744073709559808, 36893488147419103232⟩, ⟨67108864, 18446744073709552128, 73786976294838206464⟩, ⟨67108864, 18446744073709555712, 147573952589676412928⟩, ⟨1006632960, 276701161105643274240, 295147905179352825856⟩, ⟨67108864, 18446744073709552128, 590295810358705651712⟩, ⟨3288334336, 903890459611768029184, 1180591620717411303424⟩, ⟨4362076160, 1199038364791120855040, 2361183241434822606848⟩, ⟨9663676416, 2361183241434822606848, 4722366482869645213696⟩, ⟨17179869184, 4722366482869645221888, 9444732965739290427392⟩, ⟨17179869184, 4722366482869645217792, 18889465931478580854784⟩, ⟨17179869184, 4722366482869645214208, 37778931862957161709568⟩, ⟨257698037760, 70835497243044678205440, 75557863725914323419136⟩, ⟨17179869184, 4722366482869645214208, 151115727451828646838272⟩, ⟨841813590016, 231395957660612615471104, 302231454903657293676544⟩, ⟨1116691496960, 306953821386526938890240, 604462909807314587353088⟩, ⟨2473901162496, 604462909807314587353088, 1208925819614629174706176⟩, ⟨4398046511104, 1208925819614629174714368, 2417851639229258349412352⟩, ⟨4398046511104, 1208925819614629174710272, 4835703278458516698824704⟩, ⟨4398046511104, 1208925819614629174710272, 9671406556917033397649408⟩, ⟨65970697666560, 18133887294219437620592640, 19342813113834066795298816⟩, ⟨4398046511104, 1208925819614629174706176, 38685626227668133590597632⟩, ⟨215504279044096, 59237365161116829560602624, 77371252455336267181195264⟩, ⟨285873023221760, 78580178274950896355901440, 154742504910672534362390528⟩, ⟨633318697598976, 154742504910672534362390528, 309485009821345068724781056⟩, ⟨1125899906842624, 309485009821345068724789248, 618970019642690137449562112⟩, ⟨1125899906842624, 309485009821345068724781568, 1237940039285380274899124224⟩, ⟨1125899906842624, 309485009821345068724782080, 2475880078570760549798248448⟩, ⟨16888498602639360, 4642275147320176030871715840, 4951760157141521099596496896⟩, ⟨1125899906842624, 309485009821345068724781056, 9903520314283042199192993792⟩, ⟨1125899906842624, 309485009821345068724781057, 19807040628566084398385987584⟩, ⟨127226689473216512, 30020045952670471666303762432, 39614081257132168796771975168⟩, ⟨1125899906842624, 309485009821345068724781058, 79228162514264337593543950336⟩, ⟨433471464134410240, 119151728781217851459040706560, 158456325028528675187087900672⟩, ⟨577586652210266112, 158765810038350020255812681728, 316912650057057350374175801344⟩, ⟨1172061803023171584, 322173895224020216542497079296, 633825300114114700748351602688⟩, ⟨2306968909120536576, 634134785123936045817076383744, 1267650600228229401496703205376⟩, ⟨9223372036854775807, 1267650600228229401496703205376, 256⟩] [(0, false), (1, false), (2, false), (4, false), (5, false), (6, false), (3, true), (7, true), (8, false), (9, false), (10, false), (11, false), (12, false), (13, false), (14, false), (17, false), (18, false), (19, false), (20, false), (22, false), (15, true), (16, true), (21, true), (23, true), (24, false), (25, false), (26, false), (27, false), (28, false), (29, false), (31, false), (30, true), (32, false), (33, false), (34, false), (35, false), (36, false), (37, false), (39, false), (38, true), (40, false), (41, false), (42, false), (43, false), (44, false), (45, false), (47, false), (46, true), (48, false), (49, false), (50, false), (51, false), (52, false), (53, false), (56, false), (58, false)] rfl (by kernel_rfl) (by kernel_rfl) (fun _ _ d _ _ h => by cases d <;> exact h) hKc ?_
  simp only [rowsOf, rowAt, gslot, List.map_cons, List.map_nil, List.append_eq, List.cons_append, List.nil_append, List.getElem?_toArray, List.getElem?_cons_zero, List.getElem?_cons_succ, Option.bind_some]
  repeat (first
    | (refine seqE_take (v := ?_) (a' := ?_) (by rfl) ?_ ?_ ?_
       rotate_left 2
       · (intro w hSw; have hCw := HB.out w hSw; go_split_ands; go_simp; with_reducible rfl)
       · (simp only [Act.put, List.setIfInBounds_toArray, List.set_cons_zero, List.set_cons_succ]; with_reducible rfl))
    | (refine seqE_callv (f := 15) (args := ?_) (v := ?_) (a' := ?_) (by rfl) (by rfl) (by rfl) Try.call15 ?_ ?_ ?_ ?_
       rotate_left 3
       · (go_simp; with_reducible rfl)
       · ((first
           | (with_reducible refine (merge_is x y M _ HM.out.1).mono ?_)
           | (with_reducible refine (merge_is y x M _ HM.out.2.1).mono ?_)
           | (with_reducible refine (merge_is y z yz _ HM.out.2.2.1).mono ?_)
           | (with_reducible refine (merge_is x yz t _ HM.out.2.2.2.1).mono ?_)
           | (with_reducible refine (merge_is M z t _ HM.out.2.2.2.2.1).mono ?_)
           | (with_reducible refine (merge_n1 x 0 _ HM.out.2.2.2.2.2.1).mono ?_)
           | (with_reducible refine (merge_n2 x 0 _ HM.out.2.2.2.2.2.2.1).mono ?_)
           | (with_reducible refine (merge_n3 0 _ HM.out.2.2.2.2.2.2.2).mono ?_))
          rintro e w' ⟨rfl, hk⟩
          refine ⟨?_, HS.out _ (hKc.trans hk)⟩
          with_reducible rfl)
       · (simp only [Act.put, List.setIfInBounds_toArray, List.set_cons_zero, List.set_cons_succ]; with_reducible rfl)
       clear hKc
       intro w2 hw2
       have hKc := hw2
       clear hw2)
    | (refine seqE_skip (a' := ?_) (HS.out _ hKc) (by rfl) ?_ ?_
       rotate_left
       · (simp only [Act.put, List.setIfInBounds_toArray, List.set_cons_zero, List.set_cons_succ]; with_reducible rfl)))
  refine seqE_nil ?_
  intro hKd listed hLs hns
  refine wpAnyH_named (fun a0 ha0 => ?_)
  have HA0 := Lib.hid ha0
  have hs0 : a0.tmps.size = 101 := by rw [ha0]; rfl
  have e88 : a0.eval (.tmp 88) = .bool true := by rw [ha0]; rfl
  have e89 : a0.eval (.tmp 89) = .func (.func 15) #[] #[] := by rw [ha0]; rfl
  have e90 : a0.eval (.tmp 90) = .agg #[.int .i64 x.c, .int .i64 x.s, .int .i64 x.mn, .int .i64 x.mx] := by rw [ha0]; rfl
  have e91 : a0.eval (.tmp 91) = .agg #[.int .i64 y.c, .int .i64 y.s, .int .i64 y.mn, .int .i64 y.mx] := by rw [ha0]; rfl
  have e94 : a0.eval (.tmp 94) = .slice A n1 c1 := by rw [ha0]; rfl
  have e96 : a0.eval (.tmp 96) = .slice B n2 c2 := by rw [ha0]; rfl
  clear ha0
  refine merges_rest (W0 := W5) (M := M) (x := x) (y := y) (xs := xs) (ys := ys) [⟨0, 8192, 274877906944⟩, ⟨0, 512, 549755813888⟩, ⟨0, 1024, 1099511627776⟩, ⟨7, 1924145348608, 2199023255552⟩, ⟨0, 8192, 4398046511104⟩, ⟨0, 1024, 8796093022208⟩, ⟨0, 512, 17592186044416⟩, ⟨120, 30786325577728, 35184372088832⟩, ⟨136, 37383395344384, 70368744177664⟩, ⟨384, 70368744177664, 140737488355328⟩, ⟨512, 140737488363520, 281474976710656⟩, ⟨512, 140737488355840, 562949953421312⟩, ⟨512, 140737488363520, 1125899906842624⟩, ⟨512, 140737488356352, 2251799813685248⟩, ⟨512, 140737488357376, 4503599627370496⟩, ⟨29184, 8022036836253696, 9007199254740992⟩, ⟨36352, 9992361673228288, 18014398509481984⟩, ⟨512, 140737488363520, 36028797018963968⟩, ⟨512, 140737488363520, 72057594037927936⟩, ⟨512, 140737488355840, 144115188075855872⟩, ⟨512, 140737488356352, 288230376151711744⟩, ⟨1901056, 504543895753850880, 576460752303423488⟩, ⟨512, 140737488357376, 1152921504606846976⟩, ⟨6423040, 1765551791417589760, 2305843009213693952⟩, ⟨8454656, 2323998145211531264, 4611686018427387904⟩, ⟨16777728, 4611826755915743232, 9223372036854775808⟩, ⟨41943040, 9223372036854775808, 18446744073709551616⟩, ⟨67108864, 18446744073709559808, 36893488147419103232⟩, ⟨67108864, 18446744073709552128, 73786976294838206464⟩, ⟨67108864, 18446744073709555712, 147573952589676412928⟩, ⟨1006632960, 276701161105643274240, 295147905179352825856⟩, ⟨67108864, 18446744073709552128, 590295810358705651712⟩, ⟨3288334336, 903890459611768029184, 1180591620717411303424⟩, ⟨4362076160, 1199038364791120855040, 2361183241434822606848⟩, ⟨9663676416, 2361183241434822606848, 4722366482869645213696⟩, ⟨17179869184, 4722366482869645221888, 9444732965739290427392⟩, ⟨17179869184, 4722366482869645217792, 18889465931478580854784⟩, ⟨17179869184, 4722366482869645214208, 37778931862957161709568⟩, ⟨257698037760, 70835497243044678205440, 75557863725914323419136⟩, ⟨17179869184, 4722366482869645214208, 151115727451828646838272⟩, ⟨841813590016, 231395957660612615471104, 302231454903657293676544⟩, ⟨1116691496960, 306953821386526938890240, 604462909807314587353088⟩, ⟨2473901162496, 604462909807314587353088, 1208925819614629174706176⟩, ⟨4398046511104, 1208925819614629174714368, 2417851639229258349412352⟩, ⟨4398046511104, 1208925819614629174710272, 4835703278458516698824704⟩, ⟨4398046511104, 1208925819614629174710272, 9671406556917033397649408⟩, ⟨65970697666560, 18133887294219437620592640, 19342813113834066795298816⟩, ⟨4398046511104, 1208925819614629174706176, 38685626227668133590597632⟩, ⟨215504279044096, 59237365161116829560602624, 77371252455336267181195264⟩, ⟨285873023221760, 78580178274950896355901440, 154742504910672534362390528⟩, ⟨633318697598976, 154742504910672534362390528, 309485009821345068724781056⟩, ⟨1125899906842624, 309485009821345068724789248, 618970019642690137449562112⟩, ⟨1125899906842624, 309485009821345068724781568, 1237940039285380274899124224⟩, ⟨1125899906842624, 309485009821345068724782080, 2475880078570760549798248448⟩, ⟨16888498602639360, 4642275147320176030871715840, 4951760157141521099596496896⟩, ⟨1125899906842624, 309485009821345068724781056, 9903520314283042199192993792⟩, ⟨1125899906842624, 309485009821345068724781057, 19807040628566084398385987584⟩, ⟨127226689473216512, 30020045952670471666303762432, 39614081257132168796771975168⟩, ⟨1125899906842624, 309485009821345068724781058, 79228162514264337593543950336⟩, ⟨433471464134410240, 119151728781217851459040706560, 158456325028528675187087900672⟩, ⟨577586652210266112, 158765810038350020255812681728, 316912650057057350374175801344⟩, ⟨1172061803023171584, 322173895224020216542497079296, 633825300114114700748351602688⟩, ⟨2306968909120536576, 634134785123936045817076383744, 1267650600228229401496703205376⟩, ⟨9223372036854775807, 1267650600228229401496703205376, 256⟩] (eqM_spec _ _ _ (by kernel_rfl)) (by kernel_rfl) rfl hs0 ⟨_, rfl, rfl, rfl, rfl⟩ ⟨_, rfl, rfl, rfl, rfl⟩ ⟨_, rfl, rfl, rfl, rfl⟩ ⟨_, rfl, rfl, rfl, rfl⟩ ⟨_, rfl, rfl, rfl, rfl⟩ ⟨_, rfl, rfl, rfl, rfl⟩ ⟨_, rfl, rfl, rfl, rfl⟩ ⟨_, rfl, rfl, rfl, rfl⟩
    (fun m h => by obtain rfl := Option.some.inj h; decide) (fun m h => by obtain rfl := Option.some.inj h; decide) (fun m h => by obtain rfl := Option.some.inj h; decide) (fun m h => by obtain rfl := Option.some.inj h; decide) (fun m h => by obtain rfl := Option.some.inj h; decide) (fun m h => by obtain rfl := Option.some.inj h; decide)
    e88 e89 e90 e91 e94 e96 (fun w' => merge_is x y M w' HM.out.1) HC.out.2.2.2 (HLB.out.1.up hk5) (HLB.out.2.up hk5) na nb g1 g2 ?_ listed _ hLs hns hKd _ rfl
  intro v5 v7 v9 w9 hk9
  simp only [putAll, List.foldl_cons, List.foldl_nil]
  rw [show mgVal M v5 v7 v9 63 = .bool true from rfl]
  rw [HA0.out]
  simp only [Act.put, List.setIfInBounds_toArray, List.set_cons_zero, List.set_cons_succ]
  go_wp2
  go_ret
  exact ⟨rfl, hk5.trans hk9⟩

theorem merges_long (A B C : Option Addr) (n1 n2 n3 c1 c2 c3 : Nat) (q : Int) (w : World) (h : ¬ (n1 ≤ 100 ∧ n2 ≤ 100 ∧ n3 ≤ 100)) :
    Calls Try.prog 7 #[.slice A n1 c1, .slice B n2 c2, .slice C n3 c3, .int .i64 q] w fun e w' => e = .returned (.bool true) ∧ Keep w w' := by
  by_cases h1 : 100 < n1
  · have k1 : (100 : Int) < (n1 : Int) := by omega
    clear h
    go_enter Try.func7, Try.ntmps7
    go_wp2_with (go_at_call 8; refine (alive_any _).mono ?_; rintro e w1 ⟨rfl, hk1⟩)
    go_ret
    exact ⟨rfl, hk1⟩
  · have k1 : ¬ (100 : Int) < (n1 : Int) := by omega
    by_cases h2 : 100 < n2
    · have k2 : (100 : Int) < (n2 : Int) := by omega
      clear h
      go_enter Try.func7, Try.ntmps7
      go_wp2_with (go_at_call 8; refine (alive_any _).mono ?_; rintro e w1 ⟨rfl, hk1⟩)
      go_ret
      exact ⟨rfl, hk1⟩
    · have k2 : ¬ (100 : Int) < (n2 : Int) := by omega
      have k3 : (100 : Int) < (n3 : Int) := by omega
      clear h
      go_enter Try.func7, Try.ntmps7
      go_wp2_with (go_at_call 8; refine (alive_any _).mono ?_; rintro e w1 ⟨rfl, hk1⟩)
      go_ret
      exact ⟨rfl, hk1⟩

theorem AggMerges_std (A : Option Addr) (n1 c1 : Nat) (xs : List Int) (B : Option Addr) (n2 c2 : Nat) (ys : List Int) (C : Option Addr) (n3 c3 : Nat) (zs : List Int) (q : Int) (_ : (Lit.int .i64 q).wf = true) (w : World) (ra : Arr .i64 w A n1 xs) (ca : n1 ≤ c1 ∧ (A = none → c1 = 0)) (rb : Arr .i64 w B n2 ys) (cb : n2 ≤ c2 ∧ (B = none → c2 = 0)) (rc : Arr .i64 w C n3 zs) (_ : n3 ≤ c3 ∧ (C = none → c3 = 0)) :
    Calls Try.prog 7 #[.slice A n1 c1, .slice B n2 c2, .slice C n3 c3, .int .i64 q] w fun e w' => e = .returned (.bool true) ∧ Below w.heap.size w w' := by
  by_cases h : n1 ≤ 100 ∧ n2 ≤ 100 ∧ n3 ≤ 100
  · rcases Int.lt_trichotomy q 0 with hq | rfl | hq
    · exact merges_lt A B C n1 n2 n3 c1 c2 c3 xs ys zs q w ra rb rc ca.2 cb.2 h.1 h.2.1 h.2.2 hq
    · exact merges_eq A B C n1 n2 n3 c1 c2 c3 xs ys zs w ra rb rc ca.2 cb.2 h.1 h.2.1 h.2.2
    · exact merges_gt A B C n1 n2 n3 c1 c2 c3 xs ys zs q w ra rb rc ca.2 cb.2 h.1 h.2.1 h.2.2 hq
  · exact merges_long A B C n1 n2 n3 c1 c2 c3 q w h
end Go.Proofs.Ytglokhpgjfoneac
