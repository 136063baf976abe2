/- The walk of LabelJoins. -/
import Derived.Test.YtjhakgnjodocpabLabArg
import Derived.Test.YtjhakgnjodocpabLabRef
import Derived.Test.YtjhakgnjodocpabSeq
namespace Go.Proofs.Ytjhakgnjodocpab
open Go.RowKit

theorem chk_jn (a b : Lb) : chk (jn a b) = if chk a = 0 then chk b else chk a := by
  unfold chk jn
  simp only
  by_cases h1 : a.lv ≤ 15 <;> by_cases h2 : b.lv ≤ 15 <;> simp [h1, h2] <;> omega
theorem dm_jm {b : Lb} (a c : Lb) (hb : b.ok) : dm (jn a b) (mt b c) = true := by
  rw [dm_iff, ← jn_assoc, jn_mt_abs c hb]
theorem three (w : World) (a b c : Lb) : LbAt (((w.alloc (.cells #[.int .u8 a.lv, .int .u16 a.ct] 24)).alloc (.cells #[.int .u8 b.lv, .int .u16 b.ct] 24)).alloc (.cells #[.int .u8 c.lv, .int .u16 c.ct] 24)) w.heap.size a ∧
    LbAt (((w.alloc (.cells #[.int .u8 a.lv, .int .u16 a.ct] 24)).alloc (.cells #[.int .u8 b.lv, .int .u16 b.ct] 24)).alloc (.cells #[.int .u8 c.lv, .int .u16 c.ct] 24)) (w.heap.size + 1) b ∧
    LbAt (((w.alloc (.cells #[.int .u8 a.lv, .int .u16 a.ct] 24)).alloc (.cells #[.int .u8 b.lv, .int .u16 b.ct] 24)).alloc (.cells #[.int .u8 c.lv, .int .u16 c.ct] 24)) (w.heap.size + 1 + 1) c := by
  obtain ⟨h1, h2⟩ := LbAt.two w a b
  refine ⟨h1.keep ((Keep.refl _).alloc _), h2.keep ((Keep.refl _).alloc _), ?_⟩
  have := LbAt.new ((w.alloc (.cells #[.int .u8 a.lv, .int .u16 a.ct] 24)).alloc (.cells #[.int .u8 b.lv, .int .u16 b.ct] 24)) c
  simpa only [World.size_alloc] using this

theorem chk_two (a : Lb) : chk a = 0 ∨ chk a = 23 := by
  unfold chk
  by_cases h : a.lv ≤ 15
  · exact .inl (if_pos h)
  · exact .inr (if_neg h)

set_option maxRecDepth 100000 in
set_option maxHeartbeats 4000000 in
theorem joins_core (a b c : Lb) (w : World) (ha : a.ok) (hb : b.ok) (hc : c.ok) :
    Calls Try.prog 6 #[.agg #[.int .u8 a.lv, .int .u16 a.ct], .agg #[.int .u8 b.lv, .int .u16 b.ct], .agg #[.int .u8 c.lv, .int .u16 c.ct]] w fun e w' => e = .returned (.bool true) ∧ Keep w w' := by
  have q1 := equalIn_lb
  have q2 := eq4_self
  obtain ⟨HA, HB, HC⟩ := three w a b c
  have hk0 := (((Keep.refl w).alloc (.cells #[.int .u8 a.lv, .int .u16 a.ct] 24)).alloc (.cells #[.int .u8 b.lv, .int .u16 b.ct] 24)).alloc (.cells #[.int .u8 c.lv, .int .u16 c.ct] 24)
  have e1 : eq4 (jn a b).lv (jn a b).ct (jn b a).lv (jn b a).ct = true := eqL_iff.2 (jn_comm a b)
  have e2 : eq4 (mt a b).lv (mt a b).ct (mt b a).lv (mt b a).ct = true := eqL_iff.2 (mt_comm a b)
  have e3 : eq4 (jn a (jn b c)).lv (jn a (jn b c)).ct (jn (jn a b) c).lv (jn (jn a b) c).ct = true := eqL_iff.2 (jn_assoc a b c)
  have e4 : eq4 (mt a (mt b c)).lv (mt a (mt b c)).ct (mt (mt a b) c).lv (mt (mt a b) c).ct = true := eqL_iff.2 (mt_assoc a b c)
  have e5 : eq4 (jn a a).lv (jn a a).ct a.lv a.ct = true := eqL_iff.2 (jn_self ha)
  have e6 : eq4 (mt a a).lv (mt a a).ct a.lv a.ct = true := eqL_iff.2 (mt_self ha)
  have e7 : eq4 (mt a (jn b c)).lv (mt a (jn b c)).ct (jn (mt a b) (mt a c)).lv (jn (mt a b) (mt a c)).ct = true := eqL_iff.2 (mt_jn a b c)
  have HD := Lib.hid (dm_jm a c hb)
  have hcj := chk_jn a b
  have okab := jn_ok ha hb
  have okbc := jn_ok hb hc
  have omab := mt_ok ha hb
  have omac := mt_ok ha hc
  have ombc := mt_ok hb hc
  go_enter Try.func6, Try.ntmps6
  go_wp2_with fail
  refine (alive_any _).mono ?_
  rintro e w1 ⟨rfl, hk1⟩
  have hA := HA.keep hk1
  have hB := HB.keep hk1
  have hC := HC.keep hk1
  have hK := hk0.trans hk1
  clear HA HB HC hk0 hk1
  go_wp2_with fail
  have HS := Lib.hid (show ∀ w', Keep w1 w' → Keep w1 w' ∧ ((w'.cell? ⟨w.heap.size, 0, none⟩ = some (.int .u8 a.lv) ∧ w'.cell? ⟨w.heap.size, 1, none⟩ = some (.int .u16 a.ct)) ∧ (w'.cell? ⟨w.heap.size + 1, 0, none⟩ = some (.int .u8 b.lv) ∧ w'.cell? ⟨w.heap.size + 1, 1, none⟩ = some (.int .u16 b.ct)) ∧ (w'.cell? ⟨w.heap.size + 1 + 1, 0, none⟩ = some (.int .u8 c.lv) ∧ w'.cell? ⟨w.heap.size + 1 + 1, 1, none⟩ = some (.int .u16 c.ct))) from
    fun w' h => ⟨h, (hA.keep h).cells, (hB.keep h).cells, (hC.keep h).cells⟩)
  clear hA hB hC
  have hKc : Keep w1 w1.drew := (Keep.refl _).drew
  have hv : (chk a = 0 ∧ chk (jn a b) = chk b) ∨ (chk a = 23 ∧ chk (jn a b) = 23) := by
    rcases chk_two a with h | h
    · exact .inl ⟨h, by rw [hcj, if_pos h]⟩
    · exact .inr ⟨h, by rw [hcj, if_neg (by rw [h]; decide), h]⟩
  clear hcj
  refine seq_region (S := fun w' => Keep w1 w' ∧ ((w'.cell? ⟨w.heap.size, 0, none⟩ = some (.int .u8 a.lv) ∧ w'.cell? ⟨w.heap.size, 1, none⟩ = some (.int .u16 a.ct)) ∧ (w'.cell? ⟨w.heap.size + 1, 0, none⟩ = some (.int .u8 b.lv) ∧ w'.cell? ⟨w.heap.size + 1, 1, none⟩ = some (.int .u16 b.ct)) ∧ (w'.cell? ⟨w.heap.size + 1 + 1, 0, none⟩ = some (.int .u8 c.lv) ∧ w'.cell? ⟨w.heap.size + 1 + 1, 1, none⟩ = some (.int .u16 c.ct)))) [⟨0, 128, 2048⟩, ⟨0, 8, 4096⟩, ⟨0, 16, 8192⟩, ⟨7, 14336, 16384⟩, ⟨0, 128, 32768⟩, ⟨0, 16, 65536⟩, ⟨0, 8, 131072⟩, ⟨120, 229376, 262144⟩, ⟨136, 278528, 524288⟩, ⟨384, 524288, 1048576⟩, ⟨512, 1048832, 2097152⟩, ⟨512, 1048584, 4194304⟩, ⟨512, 1048592, 8388608⟩, ⟨7680, 15728640, 16777216⟩, ⟨512, 1048832, 33554432⟩, ⟨512, 1048592, 67108864⟩, ⟨512, 1048584, 134217728⟩, ⟨123392, 235929600, 268435456⟩, ⟨139776, 286261248, 536870912⟩, ⟨262656, 537919488, 1073741824⟩, ⟨655360, 1073741824, 2147483648⟩, ⟨1048576, 2147483776, 4294967296⟩, ⟨1048576, 2147483656, 8589934592⟩, ⟨1048576, 2147483776, 17179869184⟩, ⟨1048576, 2147483664, 34359738368⟩, ⟨1048576, 2147483680, 68719476736⟩, ⟨59768832, 122406567936, 137438953472⟩, ⟨74448896, 152471339008, 274877906944⟩, ⟨1048576, 2147483776, 549755813888⟩, ⟨1048576, 2147483776, 1099511627776⟩, ⟨1048576, 2147483656, 2199023255552⟩, ⟨1048576, 2147483664, 4398046511104⟩, ⟨3893362688, 7698728878080, 8796093022208⟩, ⟨1048576, 2147483680, 17592186044416⟩, ⟨13154385920, 26940182364160, 35184372088832⟩, ⟨17315135488, 35461397479424, 70368744177664⟩, ⟨34360786944, 70370891661312, 140737488355328⟩, ⟨85899345920, 140737488355328, 281474976710656⟩, ⟨137438953472, 281474976710912, 562949953421312⟩, ⟨137438953472, 281474976710664, 1125899906842624⟩, ⟨137438953472, 281474976710912, 2251799813685248⟩, ⟨137438953472, 281474976710672, 4503599627370496⟩, ⟨137438953472, 281474976710688, 9007199254740992⟩, ⟨7834020347904, 16044073672507392, 18014398509481984⟩, ⟨9758165696512, 19984723346456576, 36028797018963968⟩, ⟨137438953472, 281474976710912, 72057594037927936⟩, ⟨137438953472, 281474976710912, 144115188075855872⟩, ⟨137438953472, 281474976710664, 288230376151711744⟩, ⟨137438953472, 281474976710672, 576460752303423488⟩, ⟨510310834241536, 1009087791507701760, 1152921504606846976⟩, ⟨137438953472, 281474976710688, 2305843009213693952⟩, ⟨1724171671306240, 3531103582835179520, 4611686018427387904⟩, ⟨2269529438683136, 4647996290423062528, 9223372036854775808⟩, ⟨4503737066323968, 9223653511831486464, 18446744073709551616⟩, ⟨11258999068426240, 18446744073709551616, 36893488147419103232⟩, ⟨18014398509481984, 36893488147419103360, 73786976294838206464⟩, ⟨18014398509481984, 36893488147419103240, 147573952589676412928⟩, ⟨18014398509481984, 36893488147419103240, 295147905179352825856⟩, ⟨270215977642229760, 553402322211286548480, 590295810358705651712⟩, ⟨18014398509481984, 36893488147419103240, 1180591620717411303424⟩, ⟨882705526964617216, 1807780919223536058368, 2361183241434822606848⟩, ⟨1170935903116328960, 2398076729582241710080, 4722366482869645213696⟩, ⟨2594073385365405696, 4722366482869645213696, 9444732965739290427392⟩, ⟨4611686018427387904, 9444732965739290427648, 18889465931478580854784⟩, ⟨4611686018427387904, 9444732965739290427400, 37778931862957161709568⟩, ⟨4611686018427387904, 9444732965739290427400, 75557863725914323419136⟩, ⟨69175290276410818560, 141670994486089356410880, 151115727451828646838272⟩, ⟨4611686018427387904, 9444732965739290427400, 302231454903657293676544⟩, ⟨225972614902942007296, 462791915321225230942208, 604462909807314587353088⟩, ⟨299759591197780213760, 613907642773053877780480, 1208925819614629174706176⟩, ⟨664082786653543858176, 1208925819614629174706176, 2417851639229258349412352⟩, ⟨1180591620717411303424, 2417851639229258349412608, 4835703278458516698824704⟩, ⟨1180591620717411303424, 2417851639229258349412360, 9671406556917033397649408⟩, ⟨1180591620717411303424, 2417851639229258349412480, 19342813113834066795298816⟩, ⟨1180591620717411303424, 2417851639229258349412368, 38685626227668133590597632⟩, ⟨1180591620717411303424, 2417851639229258349412384, 77371252455336267181195264⟩, ⟨67293722380892444295168, 137817543436067725916504064, 154742504910672534362390528⟩, ⟨83822005070936202543104, 171667466385277342808276992, 309485009821345068724781056⟩, ⟨1180591620717411303424, 2417851639229258349412480, 618970019642690137449562112⟩, ⟨1180591620717411303424, 2417851639229258349412608, 1237940039285380274899124224⟩, ⟨1180591620717411303424, 2417851639229258349412360, 2475880078570760549798248448⟩, ⟨1180591620717411303424, 2417851639229258349412368, 4951760157141521099596496896⟩, ⟨4383536687723748169613312, 8667998126636891182643281920, 9903520314283042199192993792⟩, ⟨1180591620717411303424, 2417851639229258349412608, 19807040628566084398385987584⟩, ⟨1180591620717411303424, 2417851639229258349412360, 39614081257132168796771975168⟩, ⟨1180591620717411303424, 2417851639229258349412384, 79228162514264337593543950336⟩, ⟨72536729768498467893673984, 138651702251601820047051325440, 158456325028528675187087900672⟩, ⟨82510367780319158584999936, 168981233214093636782079868928, 316912650057057350374175801344⟩, ⟨154894801229745080420532224, 317224552918517924701249994752, 633825300114114700748351602688⟩, ⟨309486190412965786136084480, 633827717965753930006701015040, 1267650600228229401496703205376⟩, ⟨773712524553362671811952640, 1267650600228229401496703205376, 2535301200456458802993406410752⟩, ⟨1237940039285380274899124224, 2535301200456458802993406410880, 5070602400912917605986812821504⟩, ⟨1237940039285380274899124224, 2535301200456458802993406410760, 10141204801825835211973625643008⟩, ⟨1237940039285380274899124224, 2535301200456458802993406410768, 20282409603651670423947251286016⟩, ⟨18569100589280704123486863360, 38029518006846882044901096161280, 40564819207303340847894502572032⟩, ⟨1237940039285380274899124224, 2535301200456458802993406411008, 81129638414606681695789005144064⟩, ⟨1237940039285380274899124224, 2535301200456458802993406410768, 162259276829213363391578010288128⟩, ⟨1237940039285380274899124224, 2535301200456458802993406410784, 324518553658426726783156020576256⟩, ⟨298343549467776646250688937984, 570442770102703230673516442419200, 649037107316853453566312041152512⟩, ⟨337957630724908815047460913152, 692137227724613253217199950135296, 1298074214633706907132624082305024⟩, ⟨635063240153400081023250726912, 1300609515834163365935617488715776, 2596148429267413814265248164610048⟩, ⟨1901475900342344102245054808064, 2596148429267413814265248164610048, 5192296858534827628530496329220096⟩, ⟨2535301200456458802993406410752, 5192296858534827628530496329220224, 10384593717069655257060992658440192⟩, ⟨2535301200456458802993406410752, 5192296858534827628530496329220104, 20769187434139310514121985316880384⟩, ⟨2535301200456458802993406410752, 5192296858534827628530496329220112, 41538374868278621028243970633760768⟩, ⟨38029518006846882044901096161280, 77884452878022414427957444938301440, 83076749736557242056487941267521536⟩, ⟨43100120407759799650887908982784, 88269046595092069685018437596741632, 166153499473114484112975882535043072⟩, ⟨83664939615063140498782411554816, 171345796331649311741506378864263168, 332306998946228968225951765070086144⟩, ⟨2535301200456458802993406410752, 5192296858534827628530496329220104, 664613997892457936451903530140172288⟩, ⟨408183493273489867281938432131072, 669806294750992764080434026469392384, 1329227995784915872903807060280344576⟩, ⟨651572408517309912369305447563264, 1334420292643450700532337556609564672, 2658455991569831745807614120560689152⟩, ⟨1949646623151016819501929529868288, 2663648288428366573436144616889909248, 5316911983139663491615228241121378304⟩, ⟨2596148429267413814265248164610048, 5316911983139663491615228241121378320, 10633823966279326983230456482242756608⟩, ⟨7788445287802241442795744493830144, 15950735949418990474845684723364134912, 21267647932558653966460912964485513216⟩, ⟨12980742146337069071326240823050240, 26584559915698317458076141205606891520, 42535295865117307932921825928971026432⟩, ⟨23367871164607180787190226887901184, 47857400145115506252165584666421624832, 85070591730234615865843651857942052864⟩, ⟨41703169446308290850438542050459648, 85408091026039379661698134119341359104, 170141183460469231731687303715884105728⟩, ⟨83079285037757698515290934673932288, 170146375757327766559315834212213325824, 340282366920938463463374607431768211456⟩, ⟨332306998946228968225951765070086143, 340282366920938463463374607431768211456, 64⟩] [(0, false), (1, false), (2, false), (4, false), (5, false), (6, false), (3, true), (7, true), (8, false), (9, false), (10, false), (11, false), (12, false), (14, false), (15, false), (16, false), (13, true), (17, true), (18, false), (19, false), (20, false), (21, false), (22, false), (23, false), (24, false), (25, false), (28, false), (29, false), (30, false), (31, false), (33, false), (26, true), (27, true), (32, true), (34, true), (35, false), (36, false), (37, false), (38, false), (39, false), (40, false), (41, false), (42, false), (45, false), (46, false), (47, false), (48, false), (50, false), (43, true), (44, true), (49, true), (51, true), (52, false), (53, false), (54, false), (55, false), (56, false), (57, false), (59, false), (58, true), (60, false), (61, false), (62, false), (63, false), (64, false), (65, false), (67, false), (66, true), (68, false), (69, false), (70, false), (71, false), (72, false), (73, false), (74, false), (75, false), (78, false), (79, false), (80, false), (81, false), (83, false), (84, false), (85, false), (76, true), (77, true), (82, true), (86, true), (87, true), (88, false), (89, false), (90, false), (91, false), (92, false), (93, false), (95, false), (96, false), (97, false), (94, true), (98, true), (99, true), (100, false), (101, false), (102, false), (103, false), (104, false), (108, false), (105, true), (106, true), (107, false), (109, true), (110, false), (111, false), (112, false), (113, true), (114, false), (115, false), (116, false), (117, false), (118, false)] rfl (by kernel_rfl) (by kernel_rfl) (fun _ _ d _ _ h => by cases d <;> exact h) (HS.out _ hKc) ?_
  simp only [rowsOf, rowAt, gslot, List.map_cons, List.map_nil, List.append_eq, List.cons_append, List.nil_append, List.getElem?_toArray, List.getElem?_cons_zero, List.getElem?_cons_succ, Option.bind_some]
  rcases hv with ⟨hc1, hc2⟩ | ⟨hc1, hc2⟩
  all_goals
    repeat (first
      | (refine seq_take (v := ?_) (a' := ?_) (by rfl) ?_ ?_ ?_
         rotate_left 2
         · (intro w hSw; obtain ⟨-, hSw⟩ := hSw; go_split_ands; go_simp; with_reducible rfl)
         · (simp only [Act.put, List.setIfInBounds_toArray, List.set_cons_zero, List.set_cons_succ]; with_reducible rfl))
      | (refine seq_callv (f := 13) (args := ?_) (v := ?_) (a' := ?_) (by rfl) (by rfl) (by rfl) Try.call13 ?_ ?_ ?_ ?_
         rotate_left 3
         · (go_simp; with_reducible rfl)
         · ((with_reducible refine (join_any _ _ _ (by assumption) (by assumption)).mono ?_)
            rintro e w' ⟨rfl, hk⟩
            refine ⟨?_, HS.out _ (hKc.trans hk)⟩
            with_reducible rfl)
         · (simp only [Act.put, List.setIfInBounds_toArray, List.set_cons_zero, List.set_cons_succ]; with_reducible rfl)
         clear hKc
         intro w2 hw2
         have hKc := hw2.1
         clear hw2)
      | (refine seq_callv (f := 15) (args := ?_) (v := ?_) (a' := ?_) (by rfl) (by rfl) (by rfl) Try.call15 ?_ ?_ ?_ ?_
         rotate_left 3
         · (go_simp; with_reducible rfl)
         · ((with_reducible refine (meet_any _ _ _ (by assumption) (by assumption)).mono ?_)
            rintro e w' ⟨rfl, hk⟩
            refine ⟨?_, HS.out _ (hKc.trans hk)⟩
            with_reducible rfl)
         · (simp only [Act.put, List.setIfInBounds_toArray, List.set_cons_zero, List.set_cons_succ]; with_reducible rfl)
         clear hKc
         intro w2 hw2
         have hKc := hw2.1
         clear hw2)
      | (refine seq_callv (f := 11) (args := ?_) (v := ?_) (a' := ?_) (by rfl) (by rfl) (by rfl) Try.call11 ?_ ?_ ?_ ?_
         rotate_left 3
         · (go_simp; with_reducible rfl)
         · ((with_reducible refine (dom_is _ _ true _ (by assumption) (by assumption) HD.out).mono ?_)
            rintro e w' ⟨rfl, hk⟩
            refine ⟨?_, HS.out _ (hKc.trans hk)⟩
            with_reducible rfl)
         · (simp only [Act.put, List.setIfInBounds_toArray, List.set_cons_zero, List.set_cons_succ]; with_reducible rfl)
         clear hKc
         intro w2 hw2
         have hKc := hw2.1
         clear hw2)
      | (refine seq_callv (f := 17) (args := ?_) (v := ?_) (a' := ?_) (by rfl) (by rfl) (by rfl) Try.call17 ?_ ?_ ?_ ?_
         rotate_left 3
         · (go_simp; with_reducible rfl)
         · ((with_reducible refine (check_any _ _).mono ?_)
            rintro e w' ⟨rfl, hk⟩
            refine ⟨?_, HS.out _ (hKc.trans hk)⟩
            with_reducible rfl)
         · (simp only [Act.put, List.setIfInBounds_toArray, List.set_cons_zero, List.set_cons_succ]; with_reducible rfl)
         clear hKc
         intro w2 hw2
         have hKc := hw2.1
         clear hw2)
      | (refine seq_skip (a' := ?_) (HS.out _ hKc) (by rfl) ?_ ?_
         rotate_left
         · (simp only [Act.put, List.setIfInBounds_toArray, List.set_cons_zero, List.set_cons_succ]; with_reducible rfl)))
  all_goals
    refine seq_nil ?_
    go_wp2
    go_ret
    exact ⟨rfl, hK.trans hKc⟩

theorem LabelJoins_std (z0 z1 z2 : Lb) (w : World) (h0 : z0.ok) (h1 : z1.ok) (h2 : z2.ok) :
    Calls Try.prog 6 #[.agg #[.int .u8 z0.lv, .int .u16 z0.ct], .agg #[.int .u8 z1.lv, .int .u16 z1.ct], .agg #[.int .u8 z2.lv, .int .u16 z2.ct]] w fun e w' => e = .returned (.bool true) ∧ Below w.heap.size w w' :=
  joins_core z0 z1 z2 w h0 h1 h2
end Go.Proofs.Ytjhakgnjodocpab
