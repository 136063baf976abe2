/- The walk of OctetBack. -/
import Derived.Test.YtoilbmhijjkkaabOctLawC
import Derived.Test.YtoilbmhijjkkaabOctLawA
namespace Go.Proofs.Ytoilbmhijjkkaab
open Go.RowKit

/-- A field's bytes. -/
def backB (o : OpV) : List Int :=
  if o.kind = 0 ∨ o.kind = 1 then putB o.n (fsz o.size).toNat else if o.kind = 2 then putB o.n 8 else o.z
def backs (os : List OpV) (j : Nat) : List Int := (os.take j).flatMap backB
def rests (os : List OpV) (j : Nat) : List Int := (os.drop j).flatMap backB
theorem backs_step {os : List OpV} {j : Nat} {o : OpV} (h : os[j]? = some o) : backs os (j + 1) = backs os j ++ backB o := by
  unfold backs
  rw [List.take_add_one, h, List.flatMap_append]
  simp
theorem backs_all (os : List OpV) : backs os os.length = rests os 0 := by simp [backs, rests]
theorem rests_step {os : List OpV} {j : Nat} {o : OpV} (h : os[j]? = some o) : rests os j = backB o ++ rests os (j + 1) := by
  obtain ⟨hlt, rfl⟩ := List.getElem?_eq_some_iff.1 h
  unfold rests
  rw [List.drop_eq_getElem_cons hlt, List.flatMap_cons]
theorem rests_end (os : List OpV) : rests os os.length = [] := by simp [rests]

theorem backB_byt {w : World} {o : OpV} (h : OpOk w o) : Byt (backB o) := by
  unfold backB
  split
  · exact putB_byt _ _
  · split
    · exact putB_byt _ _
    · exact fun x hx => by have := bounds_u8 (h.2.2.2.1.2.2 x hx); omega
theorem flat_byt {w : World} {os : List OpV} (h : ∀ o ∈ os, OpOk w o) : Byt (os.flatMap backB) := by
  intro x hx
  obtain ⟨o, ho, hx⟩ := List.mem_flatMap.1 hx
  exact backB_byt (h o ho) x hx
theorem ok_mem {w : World} {a : Option Addr} {os : List OpV} (h : ∀ (i : Nat) (o : OpV), os[i]? = some o → OpOk w o ∧ ∃ b off, a = some ⟨b, off, none⟩ ∧ b < w.heap.size ∧ OpAt w b (off + i * 4) o) : ∀ o ∈ os, OpOk w o := by
  intro o ho
  obtain ⟨i, hi⟩ := List.getElem?_of_mem ho
  exact (h i o hi).1
theorem backs_byt {w : World} {a : Option Addr} {os : List OpV} (h : ∀ (i : Nat) (o : OpV), os[i]? = some o → OpOk w o ∧ ∃ b off, a = some ⟨b, off, none⟩ ∧ b < w.heap.size ∧ OpAt w b (off + i * 4) o) (j : Nat) : Byt (backs os j) :=
  flat_byt fun o ho => ok_mem h o (List.mem_of_mem_take ho)
theorem rests_byt {w : World} {a : Option Addr} {os : List OpV} (h : ∀ (i : Nat) (o : OpV), os[i]? = some o → OpOk w o ∧ ∃ b off, a = some ⟨b, off, none⟩ ∧ b < w.heap.size ∧ OpAt w b (off + i * 4) o) (j : Nat) : Byt (rests os j) :=
  flat_byt fun o ho => ok_mem h o (List.mem_of_mem_drop ho)
theorem flat_len {w : World} : ∀ (os : List OpV), (∀ o ∈ os, o.len ≤ 60) → (∀ o ∈ os, OpOk w o) → (os.flatMap backB).length ≤ 60 * os.length
  | [], _, _ => by simp
  | o :: os, h60, hok => by
    have ih := flat_len os (fun o ho => h60 o (List.mem_cons_of_mem _ ho)) (fun o ho => hok o (List.mem_cons_of_mem _ ho))
    have h1 : (backB o).length ≤ 60 := by
      unfold backB
      have hf := fsz_bd o.size
      split
      · rw [putB_length]; omega
      · split
        · rw [putB_length]; omega
        · have := (hok o (List.mem_cons_self ..)).2.2.2.1.2.1.1
          rw [vals_length] at this
          have := h60 o (List.mem_cons_self ..)
          omega
    rw [List.flatMap_cons, List.length_append, List.length_cons]
    omega
theorem rests_len {w : World} {a : Option Addr} (os : List OpV) (h60 : ∀ o ∈ os, o.len ≤ 60) (h : ∀ (i : Nat) (o : OpV), os[i]? = some o → OpOk w o ∧ ∃ b off, a = some ⟨b, off, none⟩ ∧ b < w.heap.size ∧ OpAt w b (off + i * 4) o) (j : Nat) : (rests os j).length ≤ 60 * os.length := by
  have := flat_len (w := w) (os.drop j) (fun o ho => h60 o (List.mem_of_mem_drop ho)) (fun o ho => ok_mem h o (List.mem_of_mem_drop ho))
  have h2 : (os.drop j).length ≤ os.length := by simp
  unfold rests
  omega
theorem row_cap {w : World} {base : Nat} {e : TypeId} {A : Option Addr} {n' c n : Nat} {xs : List Value} (h : w.ownsRow base e 1 (.slice A n' c) n xs) : n' ≤ c := by
  rcases h.2 with ⟨e, _⟩ | ⟨g, cap, cur, e, _, _, h1, _⟩
  · injection e with _ e2 e3; omega
  · injection e with _ e2 e3; omega

theorem OpBox.drew {w : World} {g : Nat} {o : OpV} (h : OpBox w g o) : OpBox w.drew g o := h
theorem get_put_ok (n size : Int) (K : Nat) (b : Nat) (R : List Int) (w : World) (hr : Rd w b false (putB n K ++ R)) (hx : R.length ≤ 1099511627000) (hby : Byt R) (hK : fsz size = (K : Int)) :
    Calls Try.prog 21 #[.pointer (some ⟨b, 0, none⟩), .int .i64 size] w fun e w' => e = .returned (.int .u64 (n % twoP (8 * K))) ∧ Rd w' b false R ∧ Only (fun k => k = b) w w' := by
  have hl := putB_length n K
  have hf := fsz_bd size
  refine (get_ok size K b _ w hr (by rw [List.length_append]; omega) (byt_append (putB_byt n K) hby) hK (by rw [List.length_append]; omega)).mono ?_
  rintro e w' ⟨rfl, h1, h2⟩
  rw [List.drop_left' hl] at h1
  rw [List.take_left' hl, get_put]
  exact ⟨rfl, h1, h2⟩
theorem rint_put_ok (n : Int) (b : Nat) (R : List Int) (w : World) (hr : Rd w b false (putB n 8 ++ R)) (hx : R.length ≤ 1099511627000) (hby : Byt R) (h0 : -9223372036854775808 ≤ n) (h1 : n ≤ 9223372036854775807) :
    Calls Try.prog 23 #[.pointer (some ⟨b, 0, none⟩), .int .i64 8] w fun e w' => e = .returned (.int .i64 n) ∧ Rd w' b false R ∧ Only (fun k => k = b) w w' := by
  have hl := putB_length n 8
  refine (rint_ok 8 8 b _ w hr (by rw [List.length_append]; omega) (byt_append (putB_byt n 8) hby) rfl (by rw [List.length_append]; omega)).mono ?_
  rintro e w' ⟨rfl, g1, g2⟩
  rw [List.drop_left' hl] at g1
  have e1 : sgnI (getB ((putB n 8 ++ R).take 8)) (((8 : Nat) : Int) * 8) = n := by
    rw [List.take_left' hl, get_put, show (((8 : Nat) : Int) * 8) = ((8 * 8 : Nat) : Int) from rfl, sgnI_low n _ (by omega)]
    exact (sgn_eq n 63 (by omega)).2 ⟨by rw [show twoP 63 = 9223372036854775808 from rfl]; omega, by rw [show twoP 63 = 9223372036854775808 from rfl]; omega⟩
  rw [e1]
  exact ⟨rfl, g1, g2⟩
theorem rraw_put_ok (z : List Int) (m : Nat) (b : Nat) (R : List Int) (w : World) (hr : Rd w b false (z ++ R)) (hz : z.length = m) (hm : m ≤ 60) (hx : R.length ≤ 1099511627000) :
    Calls Try.prog 25 #[.pointer (some ⟨b, 0, none⟩), .int .i64 m] w fun e w' => ∃ v, e = .returned v ∧ w'.ownsRow w.heap.size 5 1 v m (vals .u8 z) ∧ Rd w' b false R ∧ Only (fun k => k = b) w w' := by
  refine (rraw_ok m m b _ w hr (by rw [List.length_append]; omega) (by omega) (by rw [List.length_append]; omega)).mono ?_
  rintro e w' ⟨v, rfl, h0, h1, h2⟩
  rw [List.take_left' hz, hz] at h0
  rw [List.drop_left' hz] at h1
  exact ⟨v, rfl, h0, h1, h2⟩
theorem low_put (n : Int) (K : Nat) (h : K ≤ 8) : lowI (IntKind.u64.wrap n) (8 * (K : Int)) = n % twoP (8 * K) := by
  rw [show 8 * (K : Int) = ((8 * K : Nat) : Int) from by omega, lowI_nat _ _ (by omega), wrap_low _ _ (by omega)]

set_option maxRecDepth 100000 in
set_option maxHeartbeats 2000000 in
theorem back_core (a : Option Addr) (len cap : Nat) (os : List OpV) (w : World) (hos : Ops w a len os) (hfew : fewB os = true) :
    Calls Try.prog 5 #[.slice a len cap] w fun e w' => e = .returned (.bool true) ∧ Keep w w' := by
  obtain ⟨hm, hl, hat⟩ := id hos
  have hlen : os.length ≤ 40 ∧ ∀ o ∈ os, o.len ≤ 60 := by
    unfold fewB at hfew
    simpa [and_comm] using hfew
  obtain ⟨h40, h60⟩ := hlen
  subst hl
  have HAT := Lib.hid hat
  have HOS := Lib.hid hos
  have H60 := Lib.hid h60
  clear hat hos h60 hm
  go_enter Try.func5, Try.ntmps5
  go_wp2_with (first
    | (go_at_call 9; refine (alive_any _).mono ?_; rintro e w0 ⟨rfl, hk0⟩)
    | (go_at_call 10; refine (few_any _ _ _ os _ (HOS.out.keep hk0)).mono ?_; rintro e w1 ⟨rfl, hk01⟩; rw [hfew]))
  have hk1 := hk0.trans hk01
  have hw1 := wr_new w1
  have hk2 := hk1.alloc (.cells #[.slice none 0 0] 27)
  have hb0 := hk1.size
  generalize w1.heap.size = b0 at *
  generalize w1.alloc (.cells #[.slice none 0 0] 27) = w2 at *
  clear hk1 hk0 hk01
  go_loopw [19] (fun i wr => ∃ (j : Nat) (xs : List Int) (v : Value), j ≤ os.length ∧ i = .int .i64 j ∧ Hid (xs = backs os j) ∧ xs.length ≤ 60 * j ∧ Wr wr b0 v xs ∧ Keep w wr) (fun i _ => os.length - (intOf i).toNat)
  case atStart => exact ⟨0, [], .slice none 0 0, Nat.zero_le _, rfl, Lib.hid rfl, Nat.le_refl _, hw1, hk2⟩
  case round =>
    obtain ⟨j, xs, v, hj, rfl, hxs, hxl, hwr, hkr⟩ := hrel
    by_cases hlt : j < os.length
    · have hoj : os[j]? = some os[j] := List.getElem?_eq_getElem hlt
      generalize os[j] = o at hoj
      obtain ⟨hok, b, off, rfl, hb, hc⟩ := HAT.out j o hoj
      have hol := H60.out o (List.mem_of_getElem? hoj)
      have HO := Lib.hid hoj
      have hba := OpBox.new wr o
      have hta := hwr.keep ((Keep.refl wr).alloc (.cells #[.int .i64 o.kind, .int .i64 o.size, .int .i64 o.n, .slice o.a o.len o.cap] 29))
      have hka := hkr.alloc (.cells #[.int .i64 o.kind, .int .i64 o.size, .int .i64 o.n, .slice o.a o.len o.cap] 29)
      obtain ⟨c0, c1, c2, c3⟩ := hc.keep hkr hb
      have hf := fsz_bd o.size
      have hbr := hwr.1.lt
      clear hc hoj
      obtain ⟨kind, size, n, ba, bl, bc, bz⟩ := o
      simp only at c0 c1 c2 c3 hol hok hta hka hba hf
      by_cases k0 : kind = 0
      · subst k0
        go_wp2_with fail
        refine (put_w _ _ b0 v xs _ hta (by omega)).mono ?_
        rintro e w1 ⟨rfl, v1, hw1, ho1, hm1⟩
        have hk1 := wr_keep hka hta hb0 ho1
        clear hta hba ho1 hm1 hka
        go_wp2_with fail
        go_roundw
        case rel => exact ⟨j + 1, xs ++ (putB n (fsz size).toNat), v1, hlt, by go_num, Lib.hid (by rw [backs_step HO.out, ← hxs.out]; rfl), by rw [List.length_append]; simp only [putB_length]; omega, hw1, hk1⟩
        case measure => simp [intOf]; omega
      by_cases k1 : kind = 1
      · subst k1
        go_wp2_with fail
        refine (put_w _ _ b0 v xs _ hta (by omega)).mono ?_
        rintro e w1 ⟨rfl, v1, hw1, ho1, hm1⟩
        have hk1 := wr_keep hka hta hb0 ho1
        clear hta hba ho1 hm1 hka
        go_wp2_with fail
        go_roundw
        case rel => exact ⟨j + 1, xs ++ (putB n (fsz size).toNat), v1, hlt, by go_num, Lib.hid (by rw [backs_step HO.out, ← hxs.out]; rfl), by rw [List.length_append]; simp only [putB_length]; omega, hw1, hk1⟩
        case measure => simp [intOf]; omega
      by_cases k2 : kind = 2
      · subst k2
        go_wp2_with fail
        refine (wint_any _ _ b0 v xs _ hta (by omega)).mono ?_
        rintro e w1 ⟨rfl, v1, hw1, ho1, hm1⟩
        have hk1 := wr_keep hka hta hb0 ho1
        clear hta hba ho1 hm1 hka
        go_wp2_with fail
        go_roundw
        case rel => exact ⟨j + 1, xs ++ (putB n 8), v1, hlt, by go_num, Lib.hid (by rw [backs_step HO.out, ← hxs.out]; rfl), by rw [List.length_append]; simp only [putB_length]; omega, hw1, hk1⟩
        case measure => simp [intOf]; omega
      · have hse : backB ⟨kind, size, n, ba, bl, bc, bz⟩ = bz := by simp [backB, k0, k1, k2]
        have HSE := Lib.hid hse
        have hlb := hok.2.2.2.1.2.1
        have hnb := hok.2.2.2.2
        have HLB := Lib.hid (hlb.keep hka (Nat.le_refl _))
        have HNB := Lib.hid hnb
        have hbz : bz.length = bl := by have := hlb.1; rwa [vals_length] at this
        have HBZ := Lib.hid hbz
        clear hok hlb hnb hse hbz
        go_wp2_with fail
        refine (wraw_any _ _ _ bz _ b0 v xs _ hta (by omega) (by omega) HLB.out HNB.out).mono ?_
        rintro e w1 ⟨rfl, v1, hw1, ho1, hm1⟩
        have hk1 := wr_keep hka hta hb0 ho1
        clear hta hba ho1 hm1 hka
        go_wp2_with fail
        go_roundw
        case rel => exact ⟨j + 1, xs ++ bz, v1, hlt, by go_num, Lib.hid (by rw [backs_step HO.out, ← hxs.out, HSE.out]), by rw [List.length_append, HBZ.out]; omega, hw1, hk1⟩
        case measure => simp [intOf]; omega
    · obtain rfl : j = os.length := by omega
      have HXS := Lib.hid (hxs.out.trans (backs_all os))
      have HBY : Hid (Byt xs) := Lib.hid (by rw [hxs.out]; exact backs_byt HOS.out.2.2 _)
      clear hxs
      go_wp2_with fail
      refine (done_any b0 v xs wr hwr (by omega)).mono ?_
      rintro e w3 ⟨v3, rfl, hr3, hk23⟩
      have hk3 := hkr.trans hk23
      obtain ⟨A3, c3, rfl, hl3⟩ := Lies.of_row hr3
      have hn3 := row_nil hr3
      have hcap3 := row_cap hr3
      clear hr3 hk23 hwr hkr hw1 hk2
      go_wp2_with fail
      refine (open_any A3 _ c3 xs w3 w3.heap.size (by omega) (Nat.le_refl _) hl3).mono ?_
      rintro e w4 ⟨b4, rfl, hb4, hr4, hk34⟩
      have hk4 := hk3.trans hk34
      have hl4 := hl3.keep hk34 (Nat.le_refl _)
      have hs4 := hk34.size
      have hbw : w.heap.size ≤ b4 := Nat.le_trans hk3.size hb4
      generalize w3.heap.size = B3 at *
      clear hl3 hk3 hk34
      rw [HXS.out] at hr4
      have HN3 := Lib.hid hn3
      clear hn3
      go_wp2_with fail
      go_loopw [48] (fun i wr => ∃ (j : Nat), j ≤ os.length ∧ i = .int .i64 j ∧ Rd wr b4 false (rests os j) ∧ Lies wr B3 A3 xs.length (vals .u8 xs) ∧ B3 ≤ wr.heap.size ∧ Keep w wr) (fun i _ => os.length - (intOf i).toNat)
      case atStart => exact ⟨0, Nat.zero_le _, rfl, hr4, hl4, hs4, hk4⟩
      case round =>
        obtain ⟨j, hj, rfl, hrd, hlx, hsr, hkr⟩ := hrel
        clear hr4 hl4 hs4 hk4
        by_cases hlt : j < os.length
        · have hoj : os[j]? = some os[j] := List.getElem?_eq_getElem hlt
          generalize os[j] = o at hoj
          obtain ⟨hok, b, off, rfl, hb, hc⟩ := HAT.out j o hoj
          have hol := H60.out o (List.mem_of_getElem? hoj)
          have HRS := Lib.hid (rests_step hoj)
          have hbyj := Lib.hid (rests_byt HOS.out.2.2 j)
          have hlj := rests_len os H60.out HOS.out.2.2 j
          have hal := (Keep.refl wr).alloc (.cells #[.int .i64 o.kind, .int .i64 o.size, .int .i64 o.n, .slice o.a o.len o.cap] 29)
          have hba := OpBox.new wr o
          have hrda := hrd.keep hal
          have hlxa := hlx.keep hal hsr
          have hka := hkr.alloc (.cells #[.int .i64 o.kind, .int .i64 o.size, .int .i64 o.n, .slice o.a o.len o.cap] 29)
          obtain ⟨c0, c1, c2, c3'⟩ := hc.keep hkr hb
          have hf := fsz_bd o.size
          have hbr := hrd.lt
          clear hc hoj hal hrd hlx hkr
          obtain ⟨kind, size, n, ba, bl, bc, bz⟩ := o
          simp only at c0 c1 c2 c3' hol hok hka hba hf HRS
          by_cases k0 : kind = 0
          · subst k0
            obtain ⟨K, hK⟩ := Int.eq_ofNat_of_zero_le (show 0 ≤ fsz size by omega)
            have hK8 : K ≤ 8 := by omega
            have hh := (held_8 size).trans hK
            have hlow := low_put n K hK8
            have hwr8 : IntKind.i64.wrap (8 * (K : Int)) = 8 * (K : Int) := by rw [IntKind.wrap_i64]; omega
            have HSB : Hid (rests os j = putB n K ++ rests os (j + 1)) := Lib.hid (by rw [HRS.out, show (K : Nat) = (fsz size).toNat from by omega]; rfl)
            rw [HSB.out] at hrda
            have hlR := rests_len os H60.out HOS.out.2.2 (j + 1)
            have hbR := rests_byt HOS.out.2.2 (j + 1)
            have HBR := Lib.hid hbR
            have HK := Lib.hid hK
            have HHH := Lib.hid hh
            obtain ⟨d0, d1, d2, d3⟩ := hba.cells
            simp only at d0 d1 d2 d3
            clear hbR hK hh hf hlj hbyj HRS
            go_wp2_with fail
            go_region_held3 (fun w' => w'.cell? ⟨wr.heap.size, 0 + 1, none⟩ = some (.int .i64 size) ∧ w'.cell? ⟨wr.heap.size, 0 + 2, none⟩ = some (.int .i64 n)) (first | exact ⟨d1, d2⟩ | exact ⟨e1, e2⟩)
              (first
                | (go_at_call 21; refine (get_put_ok n size K b4 _ _ (hrda.keep (Keep.refl _).drew) (by omega) HBR.out HK.out).mono ?_; rintro e w5 ⟨rfl, hr5, ho5⟩; have hb5 := hba.drew.only ho5 (Nat.ne_of_gt hbr); obtain ⟨e0, e1, e2, e3⟩ := hb5.cells; simp only at e0 e1 e2 e3)
                | (go_at_call 30; refine (held_any _ _ _ _).mono ?_; rintro e w' ⟨rfl, rfl⟩; rw [HHH.out])
                | (go_at_call 29; refine (rlow_any _ _ _ (by rw [IntKind.wrap_u64]; omega) (by rw [IntKind.wrap_u64]; omega)).mono ?_; rintro e w' ⟨rfl, rfl⟩))
            have hk5 := rd_keep hka.drew hbw ho5
            have hl5 := (hlxa.keep (Keep.refl _).drew (by simp; omega)).rd ho5 hb4 (by simp; omega)
            have hs5 : wr.heap.size + 1 ≤ w5.heap.size := by simpa using ho5.size
            go_wp2_with (go_at_call 28; refine (bad_any b4 _ _ _ hr5).mono ?_; rintro e w' ⟨rfl, rfl⟩)
            go_roundw
            case rel => exact ⟨j + 1, hlt, by go_num, hr5, hl5, by omega, hk5⟩
            case measure => simp [intOf]; omega
          by_cases k1 : kind = 1
          · subst k1
            obtain ⟨K, hK⟩ := Int.eq_ofNat_of_zero_le (show 0 ≤ fsz size by omega)
            have hK8 : K ≤ 8 := by omega
            have hh := (held_8 size).trans hK
            have hlow := low_put n K hK8
            have hwr8 : IntKind.i64.wrap (8 * (K : Int)) = 8 * (K : Int) := by rw [IntKind.wrap_i64]; omega
            have HSB : Hid (rests os j = putB n K ++ rests os (j + 1)) := Lib.hid (by rw [HRS.out, show (K : Nat) = (fsz size).toNat from by omega]; rfl)
            rw [HSB.out] at hrda
            have hlR := rests_len os H60.out HOS.out.2.2 (j + 1)
            have hbR := rests_byt HOS.out.2.2 (j + 1)
            have HBR := Lib.hid hbR
            have HK := Lib.hid hK
            have HHH := Lib.hid hh
            obtain ⟨d0, d1, d2, d3⟩ := hba.cells
            simp only at d0 d1 d2 d3
            clear hbR hK hh hf hlj hbyj HRS
            go_wp2_with fail
            go_region_held3 (fun w' => w'.cell? ⟨wr.heap.size, 0 + 1, none⟩ = some (.int .i64 size) ∧ w'.cell? ⟨wr.heap.size, 0 + 2, none⟩ = some (.int .i64 n)) (first | exact ⟨d1, d2⟩ | exact ⟨e1, e2⟩)
              (first
                | (go_at_call 21; refine (get_put_ok n size K b4 _ _ (hrda.keep (Keep.refl _).drew) (by omega) HBR.out HK.out).mono ?_; rintro e w5 ⟨rfl, hr5, ho5⟩; have hb5 := hba.drew.only ho5 (Nat.ne_of_gt hbr); obtain ⟨e0, e1, e2, e3⟩ := hb5.cells; simp only at e0 e1 e2 e3)
                | (go_at_call 30; refine (held_any _ _ _ _).mono ?_; rintro e w' ⟨rfl, rfl⟩; rw [HHH.out])
                | (go_at_call 29; refine (rlow_any _ _ _ (by rw [IntKind.wrap_u64]; omega) (by rw [IntKind.wrap_u64]; omega)).mono ?_; rintro e w' ⟨rfl, rfl⟩))
            have hk5 := rd_keep hka.drew hbw ho5
            have hl5 := (hlxa.keep (Keep.refl _).drew (by simp; omega)).rd ho5 hb4 (by simp; omega)
            have hs5 : wr.heap.size + 1 ≤ w5.heap.size := by simpa using ho5.size
            go_wp2_with (go_at_call 28; refine (bad_any b4 _ _ _ hr5).mono ?_; rintro e w' ⟨rfl, rfl⟩)
            go_roundw
            case rel => exact ⟨j + 1, hlt, by go_num, hr5, hl5, by omega, hk5⟩
            case measure => simp [intOf]; omega
          by_cases k2 : kind = 2
          · subst k2
            have hn := bounds_i64 hok.2.2.1
            have HSB : Hid (rests os j = putB n 8 ++ rests os (j + 1)) := Lib.hid (by rw [HRS.out]; rfl)
            rw [HSB.out] at hrda
            have hlR := rests_len os H60.out HOS.out.2.2 (j + 1)
            have HBR := Lib.hid (rests_byt HOS.out.2.2 (j + 1))
            have HN := Lib.hid hn
            obtain ⟨d0, d1, d2, d3⟩ := hba.cells
            simp only at d0 d1 d2 d3
            clear hf hlj hbyj HRS hn
            go_wp2_with fail
            go_region_held3 (fun w' => w'.cell? ⟨wr.heap.size, 0 + 2, none⟩ = some (.int .i64 n)) (first | exact d2 | exact e2)
              (first
                | (go_at_call 23; refine (rint_put_ok n b4 _ _ (hrda.keep (Keep.refl _).drew) (by omega) HBR.out (by have := HN.out; omega) (by have := HN.out; omega)).mono ?_; rintro e w5 ⟨rfl, hr5, ho5⟩; have hb5 := hba.drew.only ho5 (Nat.ne_of_gt hbr); obtain ⟨e0, e1, e2, e3⟩ := hb5.cells; simp only at e0 e1 e2 e3))
            have hk5 := rd_keep hka.drew hbw ho5
            have hl5 := (hlxa.keep (Keep.refl _).drew (by simp; omega)).rd ho5 hb4 (by simp; omega)
            have hs5 : wr.heap.size + 1 ≤ w5.heap.size := by simpa using ho5.size
            go_wp2_with (go_at_call 28; refine (bad_any b4 _ _ _ hr5).mono ?_; rintro e w' ⟨rfl, rfl⟩)
            go_roundw
            case rel => exact ⟨j + 1, hlt, by go_num, hr5, hl5, by omega, hk5⟩
            case measure => simp [intOf]; omega
          · have HSB : Hid (rests os j = bz ++ rests os (j + 1)) := Lib.hid (by rw [HRS.out]; simp [backB, k0, k1, k2])
            rw [HSB.out] at hrda
            have hlR := rests_len os H60.out HOS.out.2.2 (j + 1)
            have hlb := hok.2.2.2.1.2.1
            have hbz : bz.length = bl := by have := hlb.1; rwa [vals_length] at this
            have HLB := Lib.hid hlb
            have HBZ := Lib.hid hbz
            obtain ⟨d0, d1, d2, d3⟩ := hba.cells
            simp only at d0 d1 d2 d3
            clear hf hlj hbyj HRS hok hlb hbz
            go_wp2_with fail
            go_region_held3 (fun w' => w'.cell? ⟨wr.heap.size, 0 + 3, none⟩ = some (.slice ba bl bc)) (first | exact d3 | exact e3)
              (first
                | (go_at_call 25; refine (rraw_put_ok bz bl b4 _ _ (hrda.keep (Keep.refl _).drew) HBZ.out hol (by omega)).mono ?_; rintro e w5 ⟨v5, rfl, hr5o, hr5, ho5⟩; obtain ⟨A5, c5, rfl, hl5o⟩ := Lies.of_row hr5o; have hk5 := rd_keep hka.drew hbw ho5; have hb5 := hba.drew.only ho5 (Nat.ne_of_gt hbr); obtain ⟨e0, e1, e2, e3⟩ := hb5.cells; simp only at e0 e1 e2 e3)
                | (go_at_call 16; refine (same_yes _ _ _ _ _ _ bz _ _ _ hl5o (HLB.out.keep hk5 (Nat.le_refl _))).mono ?_; rintro e w' ⟨rfl, rfl⟩))
            have hl5 := (hlxa.keep (Keep.refl _).drew (by simp; omega)).rd ho5 hb4 (by simp; omega)
            have hs5 : wr.heap.size + 1 ≤ w5.heap.size := by simpa using ho5.size
            go_wp2_with (go_at_call 28; refine (bad_any b4 _ _ _ hr5).mono ?_; rintro e w' ⟨rfl, rfl⟩)
            go_roundw
            case rel => exact ⟨j + 1, hlt, by go_num, hr5, hl5, by omega, hk5⟩
            case measure => simp [intOf]; omega
        · obtain rfl : j = os.length := by omega
          rw [rests_end] at hrd
          have hxc := hcap3
          by_cases hx0 : xs.length = 0
          · go_wp2_with (first
              | (go_at_call 27; refine (left_any b4 _ _ _ hrd).mono ?_; rintro e w' ⟨rfl, rfl⟩)
              | (go_at_call 26; refine (rest_ok b4 [] wr hrd (by simp)).mono ?_; rintro e w5 ⟨v5, rfl, hr5o, hr5, ho5⟩; obtain ⟨A5, c5, rfl, hl5o⟩ := Lies.of_row hr5o)
              | (go_at_call 28; refine (bad_any b4 _ _ _ hr5).mono ?_; rintro e w' ⟨rfl, rfl⟩)
              | (go_at_call 27; refine (left_any b4 _ _ _ hr5).mono ?_; rintro e w' ⟨rfl, rfl⟩))
            go_ret
            exact ⟨rfl, rd_keep hkr hbw ho5⟩
          · obtain ⟨g3, off3, rfl, hg3, -⟩ := hlx.2 (by omega)
            go_wp2_with (first
              | (go_at_call 27; refine (left_any b4 _ _ _ hrd).mono ?_; rintro e w' ⟨rfl, rfl⟩)
              | (go_at_call 26; refine (rest_ok b4 [] wr hrd (by simp)).mono ?_; rintro e w5 ⟨v5, rfl, hr5o, hr5, ho5⟩; obtain ⟨A5, c5, rfl, hl5o⟩ := Lies.of_row hr5o)
              | (go_at_call 28; refine (bad_any b4 _ _ _ hr5).mono ?_; rintro e w' ⟨rfl, rfl⟩))
            all_goals
              have hk5 := rd_keep hkr hbw ho5
              have hl5 := hlx.rd ho5 hb4 hsr
              have hs5 := ho5.size
              have hd1 : (xs.drop 1).length = xs.length - 1 := by simp
            · have HL' : Lies w5 B3 (some ⟨g3, off3, none⟩) (xs.length - 1) (vals .u8 (xs.drop 1)) := ⟨by rw [vals_length, hd1], fun h => by omega⟩
              have HD := Lib.hid hd1
              clear hl5 hlx hrd hr5 hr5o hl5o ho5 hkr hd1
              refine (open_any _ _ _ (xs.drop 1) w5 B3 (by omega) (by omega) HL').mono ?_
              rintro e w6 ⟨b6, rfl, hb6, hr6, hk56⟩
              have hk6 := hk5.trans hk56
              have hbw6 : w.heap.size ≤ b6 := Nat.le_trans hk5.size hb6
              clear HL' hk56
              go_wp2_with fail
              refine (rraw_bad xs.length b6 _ false w6 hr6 (.inr (by rw [HD.out]; omega))).mono ?_
              rintro e w7 ⟨v7, rfl, hrow7, hr7, ho7⟩
              have hk7 := rd_keep hk6 hbw6 ho7
              clear hrow7 ho7 hk6 hr6
              go_wp2_with (first
                | (go_at_call 28; refine (bad_any b6 _ _ w7 hr7).mono ?_; rintro e w' ⟨rfl, rfl⟩)
                | (go_at_call 27; refine (left_any b6 _ _ w7 hr7).mono ?_; rintro e w' ⟨rfl, rfl⟩; rw [HD.out])
                | (go_at_call 26; refine (rest_bad b6 _ w7 hr7).mono ?_; rintro e w8 ⟨v8, rfl, hrow8, hr8, ho8⟩; obtain ⟨A8, c8, hv8, -⟩ := Lies.of_row hrow8; rw [hv8]))
              go_ret
              exact ⟨rfl, rd_keep hk7 hbw6 ho8⟩
            · have HL' : Lies w5 B3 (some ⟨g3, off3 + 1, none⟩) (xs.length - 1) (vals .u8 (xs.drop 1)) := by
                have := hl5.part 1 (xs.length - 1) (by omega)
                rwa [vals_part, List.take_of_length_le (by rw [hd1]; omega)] at this
              have HD := Lib.hid hd1
              clear hl5 hlx hrd hr5 hr5o hl5o ho5 hkr hd1
              refine (open_any _ _ _ (xs.drop 1) w5 B3 (by omega) (by omega) HL').mono ?_
              rintro e w6 ⟨b6, rfl, hb6, hr6, hk56⟩
              have hk6 := hk5.trans hk56
              have hbw6 : w.heap.size ≤ b6 := Nat.le_trans hk5.size hb6
              clear HL' hk56
              go_wp2_with fail
              refine (rraw_bad xs.length b6 _ false w6 hr6 (.inr (by rw [HD.out]; omega))).mono ?_
              rintro e w7 ⟨v7, rfl, hrow7, hr7, ho7⟩
              have hk7 := rd_keep hk6 hbw6 ho7
              clear hrow7 ho7 hk6 hr6
              go_wp2_with (first
                | (go_at_call 28; refine (bad_any b6 _ _ w7 hr7).mono ?_; rintro e w' ⟨rfl, rfl⟩)
                | (go_at_call 27; refine (left_any b6 _ _ w7 hr7).mono ?_; rintro e w' ⟨rfl, rfl⟩; rw [HD.out])
                | (go_at_call 26; refine (rest_bad b6 _ w7 hr7).mono ?_; rintro e w8 ⟨v8, rfl, hrow8, hr8, ho8⟩; obtain ⟨A8, c8, hv8, -⟩ := Lies.of_row hrow8; rw [hv8]))
              go_ret
              exact ⟨rfl, rd_keep hk7 hbw6 ho8⟩

theorem back_many (a : Option Addr) (len cap : Nat) (os : List OpV) (w : World) (hos : Ops w a len os) (hfew : fewB os = false) :
    Calls Try.prog 5 #[.slice a len cap] w fun e w' => e = .returned (.bool true) ∧ Keep w w' := by
  have HOS := Lib.hid hos
  clear hos
  go_enter Try.func5, Try.ntmps5
  go_wp2_with (first
    | (go_at_call 9; refine (alive_any _).mono ?_; rintro e w0 ⟨rfl, hk0⟩)
    | (go_at_call 10; refine (few_any _ _ _ os _ (HOS.out.keep hk0)).mono ?_; rintro e w1 ⟨rfl, hk01⟩; rw [hfew]))
  go_ret
  exact ⟨rfl, hk0.trans hk01⟩

theorem OctetBack_std (a0 : Option Addr) (l0 c0 : Nat) (z0 : List OpV) (w : World) (h0 : Ops w a0 l0 z0) :
    Calls Try.prog 5 #[.slice a0 l0 c0] w fun e w' => e = .returned (.bool true) ∧ Below w.heap.size w w' := by
  cases h : fewB z0 with
  | true => exact back_core a0 l0 c0 z0 w h0 h
  | false => exact back_many a0 l0 c0 z0 w h0 h
end Go.Proofs.Ytoilbmhijjkkaab
