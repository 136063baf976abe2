/- The document's Join and Meet. -/
import Derived.Test.YtjhakgnjodocpabLabRef
namespace Go.Proofs.Ytjhakgnjodocpab
open Go.RowKit

/-- Is the bit counted, of two? -/
def pickB (all x y : Bool) : Bool := (x && y) || (!all && (x || y))
/-- What both have, or one of them. -/
def bothC (all : Bool) (a b : Int) : Int := if all then andC a b else orC a b
theorem bothC_bit (all : Bool) (a b : Int) (i : Nat) : bt (bothC all a b) i = pickB all (bt a i) (bt b i) := by
  cases all
  · simp only [bothC, pickB, bt, orC, Bool.false_eq_true, if_false, Int.toNat_natCast, Nat.testBit_or]
    cases a.toNat.testBit i <;> cases b.toNat.testBit i <;> rfl
  · simp only [bothC, pickB, bt, andC, if_true, Int.toNat_natCast, Nat.testBit_and]
    cases a.toNat.testBit i <;> cases b.toNat.testBit i <;> rfl
theorem bothC_bd (all : Bool) {a b : Int} (ha : 0 ≤ a) (ha2 : a ≤ 65535) (hb : 0 ≤ b) (hb2 : b ≤ 65535) : 0 ≤ bothC all a b ∧ bothC all a b ≤ 65535 := by
  cases all
  · exact orC_bd ha ha2 hb hb2
  · exact andC_bd ha ha2
/-- The lowest j bits. -/
def lowJ (x : Int) (j : Nat) : Int := x % twoP j
theorem bitI_if (x : Int) (j : Nat) (h : 0 ≤ x) : bitI x j = if bt x j then 1 else 0 := by
  have h1 := bitI_bt x j h
  have h2 : bitI x j = 0 ∨ bitI x j = 1 := by unfold bitI; omega
  rcases h2 with h2 | h2
  · rw [h2] at h1 ⊢
    rw [← h1]
    rfl
  · rw [h2] at h1 ⊢
    rw [← h1]
    rfl
theorem mod_step (n : Int) (j : Nat) : n % twoP (j + 1) = n % twoP j + bitI n j * twoP j := by
  unfold bitI
  have h0 := twoP_pos j
  have e1 := Int.mul_ediv_add_emod n (twoP j)
  have e2 := Int.mul_ediv_add_emod (n / twoP j) 2
  have e3 : n = twoP (j + 1) * (n / twoP j / 2) + (n % twoP j + n / twoP j % 2 * twoP j) := by
    rw [twoP_succ]
    have : twoP j * (n / twoP j) = twoP j * (2 * (n / twoP j / 2) + n / twoP j % 2) := by rw [e2]
    rw [Int.mul_add, ← Int.mul_assoc, Int.mul_comm (twoP j) 2, Int.mul_comm (twoP j) (n / twoP j % 2)] at this
    omega
  have h1 : 0 ≤ n % twoP j := Int.emod_nonneg _ (by omega)
  have h2 : n % twoP j < twoP j := Int.emod_lt_of_pos _ h0
  have h3 : n / twoP j % 2 = 0 ∨ n / twoP j % 2 = 1 := by omega
  have h4 : 0 ≤ n % twoP j + n / twoP j % 2 * twoP j ∧ n % twoP j + n / twoP j % 2 * twoP j < twoP (j + 1) := by
    rw [twoP_succ]
    rcases h3 with h | h <;> rw [h] <;> omega
  conv => lhs; rw [e3]
  rw [Int.add_comm, Int.add_mul_emod_self_left, Int.emod_eq_of_lt h4.1 h4.2]
theorem lowJ_step (x : Int) (j : Nat) (h : 0 ≤ x) : lowJ x (j + 1) = lowJ x j + if bt x j then twoP j else 0 := by
  have hb := bitI_if x j h
  have hs : x % twoP (j + 1) = x % twoP j + bitI x j * twoP j := mod_step x j
  unfold lowJ
  rw [hs, hb]
  cases bt x j <;> simp
theorem lowJ_bd (x : Int) (j : Nat) : 0 ≤ lowJ x j ∧ lowJ x j < twoP j := by
  have h3 := twoP_pos j
  exact ⟨Int.emod_nonneg _ (by omega), Int.emod_lt_of_pos _ h3⟩
theorem lowJ_all {x : Int} (h : 0 ≤ x) (h2 : x ≤ 65535) : lowJ x 16 = x := by
  unfold lowJ
  rw [show twoP 16 = 65536 from rfl]
  omega

set_option maxHeartbeats 2000000 in
theorem both_any (a b : Lb) (all : Bool) (w : World) (ha : a.ok) (hb : b.ok) :
    Calls Try.prog 23 #[.agg #[.int .u8 a.lv, .int .u16 a.ct], .agg #[.int .u8 b.lv, .int .u16 b.ct], .bool all] w fun e w' => e = .returned (.int .u16 (bothC all a.ct b.ct)) ∧ Keep w w' := by
  obtain ⟨HA, HB⟩ := LbAt.two w a b
  have hk0 := ((Keep.refl w).alloc (.cells #[.int .u8 a.lv, .int .u16 a.ct] 24)).alloc (.cells #[.int .u8 b.lv, .int .u16 b.ct] 24)
  have HX := Lib.hid (bothC_bit all a.ct b.ct)
  have HY := Lib.hid (bothC_bd all ha.2.1 ha.2.2 hb.2.1 hb.2.2)
  generalize bothC all a.ct b.ct = X at *
  go_enter Try.func23, Try.ntmps23
  go_wp2_with fail
  go_loopw [7, 8] (fun o i wr => ∃ (j : Nat), j ≤ 16 ∧ i = .int .i64 j ∧ o = .int .u16 (lowJ X j) ∧ LbAt wr w.heap.size a ∧ LbAt wr (w.heap.size + 1) b ∧ Keep w wr) (fun _ i _ => 16 - (intOf i).toNat)
  case atStart => exact ⟨0, Nat.zero_le _, rfl, by rw [show lowJ X 0 = 0 from by unfold lowJ; rw [show twoP 0 = 1 from rfl]; omega], HA, HB, hk0⟩
  case round =>
    obtain ⟨j, hj, rfl, rfl, ha1, hb1, hk⟩ := hrel
    obtain ⟨a0, a1⟩ := ha1.cells
    obtain ⟨b0, b1⟩ := hb1.cells
    by_cases hlt : j < 16
    · have HS := Lib.hid (lowJ_step X j HY.out.1)
      have hbt := HX.out j
      obtain ⟨l0, l1⟩ := lowJ_bd X j
      have p0 := twoP_pos j
      have p1 := twoP_le (show j ≤ 15 by omega)
      rw [show twoP 15 = 32768 from rfl] at p1
      have hw1 : IntKind.u16.wrap (twoP j) = twoP j := wrap16 _ (by omega) (by omega)
      have hw2 : IntKind.u16.wrap (lowJ X j + twoP j) = lowJ X j + twoP j := wrap16 _ (by omega) (by omega)
      have H1 := Lib.hid (fun (v : Bool) (h : bt a.ct j = v) (wx : World) => has_any a j v wx ha (by omega) h)
      have H2 := Lib.hid (fun (v : Bool) (h : bt b.ct j = v) (wx : World) => has_any b j v wx hb (by omega) h)
      cases hx : bt a.ct j <;> cases hy : bt b.ct j <;> cases all
      all_goals
        rw [hx, hy] at hbt
        simp [pickB] at hbt
        rw [hbt] at HS
        simp only [if_true, if_false, Bool.false_eq_true] at HS
        have HX1 := Lib.hid hx
        have HY1 := Lib.hid hy
        clear hx hy hbt
        go_wp2_with (first
          | (go_at_call 22; (first | (with_reducible refine (H1.out _ HX1.out _).mono ?_) | (with_reducible refine (H2.out _ HY1.out _).mono ?_)); rintro e w1 ⟨rfl, hk1⟩; have ha1 := ha1.keep hk1; have hb1 := hb1.keep hk1; have hk := hk.trans hk1; obtain ⟨a0, a1⟩ := ha1.cells; obtain ⟨b0, b1⟩ := hb1.cells)
          | (go_at_call 26; refine (power_any j _ (by omega)).mono ?_; rintro e w' ⟨rfl, rfl⟩))
        go_roundw
        case rel => exact ⟨j + 1, hlt, by go_num, by rw [HS.out]; (try rw [Int.add_zero]), ha1, hb1, hk⟩
        case measure => simp [intOf]; omega
    · obtain rfl : j = 16 := by omega
      have HL := Lib.hid (lowJ_all HY.out.1 HY.out.2)
      go_wp2
      go_ret
      rw [HL.out]
      exact ⟨rfl, hk⟩

theorem third_new (w : World) (o1 o2 o3 : Obj) : (((w.alloc o1).alloc o2).alloc o3).heap[w.heap.size + 1 + 1]? = some o3 := by
  have := World.alloc_heap_new ((w.alloc o1).alloc o2) o3
  simpa only [World.size_alloc] using this
theorem lb_cells {w : World} {b : Nat} {x y : Value} (h : w.heap[b]? = some (.cells #[x, y] 24 (0, 0))) :
    w.cell? ⟨b, 0, none⟩ = some x ∧ w.cell? ⟨b, 1, none⟩ = some y ∧ w.frozen? ⟨b, 0, none⟩ = false ∧ w.frozen? ⟨b, 1, none⟩ = false := by
  simp [World.cell?, World.frozen?, h]
theorem lb_set {w : World} {b : Nat} {x y : Value} (v u : Value) (h : w.heap[b]? = some (.cells #[x, y] 24 (0, 0))) : ((w.setCell ⟨b, 0, none⟩ v).setCell ⟨b, 1, none⟩ u).heap[b]? = some (.cells #[v, u] 24 (0, 0)) := by
  simp [World.setCell, Array.getElem?_modify, h]

set_option maxHeartbeats 1000000 in
theorem rjoin_any (a b : Lb) (w : World) (ha : a.ok) (hb : b.ok) :
    Calls Try.prog 14 #[.agg #[.int .u8 a.lv, .int .u16 a.ct], .agg #[.int .u8 b.lv, .int .u16 b.ct]] w fun e w' => e = .returned (.agg #[.int .u8 (jn a b).lv, .int .u16 (jn a b).ct]) ∧ Keep w w' := by
  have HB := Lib.hid (fun wx => both_any a b false wx ha hb)
  rcases Int.lt_or_le a.lv b.lv with h | h
  · have HV := Lib.hid (show max a.lv b.lv = b.lv by omega)
    go_enter Try.func14, Try.ntmps14
    go_wp2_with fail
    refine (HB.out _).mono ?_
    rintro e w1 ⟨rfl, hk1⟩
    have hc : w1.heap[w.heap.size + 1 + 1]? = some (.cells #[.int .u8 0, .int .u16 0] 24 (0, 0)) := by
      rw [hk1.block (w.heap.size + 1 + 1) (by simp)]
      exact third_new _ _ _ _
    obtain ⟨c0, c1, f0, f1⟩ := lb_cells hc
    have hk2 : Keep w w1 := (keep3 w _ _ _).trans hk1
    have HC := Lib.hid hc
    clear hc hk1
    go_wp2
    obtain ⟨d0, d1, -, -⟩ := lb_cells (lb_set (.int .u8 b.lv) (.int .u16 (bothC false a.ct b.ct)) HC.out)
    exact bodyPost_ret (v := .agg #[.int .u8 b.lv, .int .u16 (bothC false a.ct b.ct)]) (by simp [results, Try.results14, go_sem, d0, d1]) rfl
      ⟨ret_agg HV.out.symm rfl, (hk2.setCell (p := ⟨w.heap.size + 1 + 1, 0, none⟩) (by dsimp only; omega) _).setCell (p := ⟨w.heap.size + 1 + 1, 1, none⟩) (by dsimp only; omega) _⟩
  · have HV := Lib.hid (show max a.lv b.lv = a.lv by omega)
    go_enter Try.func14, Try.ntmps14
    go_wp2_with fail
    refine (HB.out _).mono ?_
    rintro e w1 ⟨rfl, hk1⟩
    have hc : w1.heap[w.heap.size + 1 + 1]? = some (.cells #[.int .u8 0, .int .u16 0] 24 (0, 0)) := by
      rw [hk1.block (w.heap.size + 1 + 1) (by simp)]
      exact third_new _ _ _ _
    obtain ⟨c0, c1, f0, f1⟩ := lb_cells hc
    have hk2 : Keep w w1 := (keep3 w _ _ _).trans hk1
    have HC := Lib.hid hc
    clear hc hk1
    go_wp2
    obtain ⟨d0, d1, -, -⟩ := lb_cells (lb_set (.int .u8 a.lv) (.int .u16 (bothC false a.ct b.ct)) HC.out)
    exact bodyPost_ret (v := .agg #[.int .u8 a.lv, .int .u16 (bothC false a.ct b.ct)]) (by simp [results, Try.results14, go_sem, d0, d1]) rfl
      ⟨ret_agg HV.out.symm rfl, (hk2.setCell (p := ⟨w.heap.size + 1 + 1, 0, none⟩) (by dsimp only; omega) _).setCell (p := ⟨w.heap.size + 1 + 1, 1, none⟩) (by dsimp only; omega) _⟩

set_option maxHeartbeats 1000000 in
theorem rmeet_any (a b : Lb) (w : World) (ha : a.ok) (hb : b.ok) :
    Calls Try.prog 16 #[.agg #[.int .u8 a.lv, .int .u16 a.ct], .agg #[.int .u8 b.lv, .int .u16 b.ct]] w fun e w' => e = .returned (.agg #[.int .u8 (mt a b).lv, .int .u16 (mt a b).ct]) ∧ Keep w w' := by
  have HB := Lib.hid (fun wx => both_any a b true wx ha hb)
  rcases Int.lt_or_le b.lv a.lv with h | h
  · have HV := Lib.hid (show min a.lv b.lv = b.lv by omega)
    go_enter Try.func16, Try.ntmps16
    go_wp2_with fail
    refine (HB.out _).mono ?_
    rintro e w1 ⟨rfl, hk1⟩
    have hc : w1.heap[w.heap.size + 1 + 1]? = some (.cells #[.int .u8 0, .int .u16 0] 24 (0, 0)) := by
      rw [hk1.block (w.heap.size + 1 + 1) (by simp)]
      exact third_new _ _ _ _
    obtain ⟨c0, c1, f0, f1⟩ := lb_cells hc
    have hk2 : Keep w w1 := (keep3 w _ _ _).trans hk1
    have HC := Lib.hid hc
    clear hc hk1
    go_wp2
    obtain ⟨d0, d1, -, -⟩ := lb_cells (lb_set (.int .u8 b.lv) (.int .u16 (bothC true a.ct b.ct)) HC.out)
    exact bodyPost_ret (v := .agg #[.int .u8 b.lv, .int .u16 (bothC true a.ct b.ct)]) (by simp [results, Try.results16, go_sem, d0, d1]) rfl
      ⟨ret_agg HV.out.symm rfl, (hk2.setCell (p := ⟨w.heap.size + 1 + 1, 0, none⟩) (by dsimp only; omega) _).setCell (p := ⟨w.heap.size + 1 + 1, 1, none⟩) (by dsimp only; omega) _⟩
  · have HV := Lib.hid (show min a.lv b.lv = a.lv by omega)
    go_enter Try.func16, Try.ntmps16
    go_wp2_with fail
    refine (HB.out _).mono ?_
    rintro e w1 ⟨rfl, hk1⟩
    have hc : w1.heap[w.heap.size + 1 + 1]? = some (.cells #[.int .u8 0, .int .u16 0] 24 (0, 0)) := by
      rw [hk1.block (w.heap.size + 1 + 1) (by simp)]
      exact third_new _ _ _ _
    obtain ⟨c0, c1, f0, f1⟩ := lb_cells hc
    have hk2 : Keep w w1 := (keep3 w _ _ _).trans hk1
    have HC := Lib.hid hc
    clear hc hk1
    go_wp2
    obtain ⟨d0, d1, -, -⟩ := lb_cells (lb_set (.int .u8 a.lv) (.int .u16 (bothC true a.ct b.ct)) HC.out)
    exact bodyPost_ret (v := .agg #[.int .u8 a.lv, .int .u16 (bothC true a.ct b.ct)]) (by simp [results, Try.results16, go_sem, d0, d1]) rfl
      ⟨ret_agg HV.out.symm rfl, (hk2.setCell (p := ⟨w.heap.size + 1 + 1, 0, none⟩) (by dsimp only; omega) _).setCell (p := ⟨w.heap.size + 1 + 1, 1, none⟩) (by dsimp only; omega) _⟩
end Go.Proofs.Ytjhakgnjodocpab
