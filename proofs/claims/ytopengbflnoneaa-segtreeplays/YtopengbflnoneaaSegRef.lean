/- The document's own beginnings of keys: half, alike, Nodes; in. -/
import Derived.Test.YtopengbflnoneaaSegWays
import Derived.Test.YtopengbflnoneaaSegFold
import Derived.BigQuiet
import Derived.WalkKit
namespace Go.Proofs.Ytopengbflnoneaa
open Go.RowKit

def pw (i : Nat) : Int := ((2 ^ i : Nat) : Int)
theorem pw_zero : pw 0 = 1 := rfl
theorem pw_succ (i : Nat) : pw (i + 1) = 2 * pw i := by unfold pw; rw [Nat.pow_succ]; omega
theorem pw_pos (i : Nat) : 1 ≤ pw i := by
  unfold pw
  have : 0 < 2 ^ i := Nat.pow_pos (by decide)
  omega
theorem pw_le {i : Nat} (h : i ≤ 31) : pw i ≤ 2147483648 := by
  unfold pw
  have : 2 ^ i ≤ 2 ^ 31 := Nat.pow_le_pow_right (by decide) h
  omega
theorem pw_int (i : Nat) : pw i = (2 : Int) ^ i := by unfold pw; simp
set_option maxRecDepth 100000 in
theorem half_is (m : Nat) (hm : m ≤ 31) (w : World) : Calls Try.prog 60 #[.int .i64 m] w fun e w' => e = .returned (.int .u32 (pw (31 - m))) ∧ w' = w := by
  have hsub : IntKind.i64.wrap (31 - (m : Int)) = ((31 - m : Nat) : Int) := by rw [IntKind.wrap_i64]; omega
  obtain ⟨d, hd⟩ : ∃ d, d = 31 - m := ⟨_, rfl⟩
  rw [← hd] at hsub ⊢
  have hd31 : d ≤ 31 := by omega
  clear hd hm
  go_enter Try.func60, Try.ntmps60
  go_wp2_with fail
  go_loopw [3, 4] (fun p i X => ∃ k : Nat, i = .int .i64 k ∧ p = .int .u32 (pw k) ∧ k ≤ d ∧ X = w) (fun _ i _ => d - (intOf i).toNat)
  case atStart => exact ⟨0, rfl, by rw [pw_zero], by omega, rfl⟩
  case round =>
    obtain ⟨k, rfl, rfl, hk, rfl⟩ := hrel
    by_cases hlt : k < d
    · have h1 := pw_pos k
      have h2 := pw_le (i := k + 1) (by omega)
      rw [pw_succ] at h2
      have hm2 : (2 * pw k) % 4294967296 = 2 * pw k := by omega
      have HS := Lib.hid (pw_succ k)
      have hlt' : (k : Int) < (d : Int) := by omega
      generalize pw k = q at *
      go_wp2
      go_roundw
      case rel => exact ⟨k + 1, by go_num, by rw [HS.out], by omega, trivial⟩
      case measure => simp [intOf]; omega
    · obtain rfl : k = d := by omega
      have hlt' : ¬ (k : Int) < (k : Int) := by omega
      go_wp2
      go_ret
      exact ⟨rfl, rfl⟩
theorem in_is (k lo hi : Int) (w : World) : Calls Try.prog 29 #[.int .u32 k, .agg #[.int .u32 lo, .int .u32 hi]] w fun e w' => e = .returned (.bool (inS lo hi (k, 0))) ∧ Keep w w' := by
  obtain ⟨x0, x1⟩ := (SpB.new w lo hi).cells
  have hk := (Keep.refl w).alloc (.cells #[.int .u32 lo, .int .u32 hi] 36)
  by_cases h : lo ≤ k
  · have h1 : decide (lo ≤ k) = true := decide_eq_true h
    have hv : inS lo hi (k, 0) = decide (k ≤ hi) := by simp [inS, h]
    rw [hv]
    clear hv h
    go_enter Try.func29, Try.ntmps29
    go_wp2
    go_ret
    exact ⟨rfl, hk⟩
  · have h1 : decide (lo ≤ k) = false := decide_eq_false h
    have hv : inS lo hi (k, 0) = false := by simp [inS, h]
    rw [hv]
    clear hv h
    go_enter Try.func29, Try.ntmps29
    go_wp2
    go_ret
    exact ⟨rfl, hk⟩
/-- As many beginnings as are missed, where the first that differs is told. -/
theorem lk_at {a b : Int} {n : Nat} (hn : n ≤ 31) (ha : 0 ≤ a ∧ a < 4294967296) (hb : 0 ≤ b ∧ b < 4294967296) (he : ∀ m, m < n → a / 2 ^ (31 - m) = b / 2 ^ (31 - m)) (hne : a / 2 ^ (31 - n) ≠ b / 2 ^ (31 - n)) : lk [a] b 32 = 32 - n := by
  have h1 : lk [a] b (31 - n) = 31 - n + 1 := lk_all (by rw [miss_one]; exact decide_eq_true hne)
  have h2 : ¬ miss [a] b (31 - n + 1) = true := by
    rw [miss_one, decide_eq_true_eq]
    intro h
    apply h
    rcases n with _ | n
    · show a / 2 ^ 32 = b / 2 ^ 32
      omega
    · have := he n (by omega)
      rw [show 31 - (n + 1) + 1 = 31 - n by omega]
      exact this
  have h3 := lk_ups h2 n
  rw [lk_up h2, h1, show 31 - n + 1 + n = 32 by omega] at h3
  omega
theorem lk_self (a : Int) : lk [a] a 32 = 0 := by
  have h2 : ¬ miss [a] a 0 = true := by rw [miss_one, decide_eq_true_eq]; simp
  have h3 := lk_ups h2 32
  rw [Nat.zero_add] at h3
  rw [h3]
  simp [lk, miss]
set_option maxRecDepth 100000 in
set_option maxHeartbeats 1000000 in
theorem alike_is (a b : Int) (ha : 0 ≤ a ∧ a < 4294967296) (hb : 0 ≤ b ∧ b < 4294967296) (w : World) : Calls Try.prog 37 #[.int .u32 a, .int .u32 b] w fun e w' => e = .returned (.int .i64 (32 - ((lk [a] b 32 : Nat) : Int))) ∧ Keep w w' := by
  have HA := Lib.hid ha
  have HB := Lib.hid hb
  clear ha hb
  go_enter Try.func37, Try.ntmps37
  go_wp2_with fail
  go_loopw [5] (fun i X => ∃ n : Nat, i = .int .i64 n ∧ n ≤ 32 ∧ Hid (∀ m, m < n → a / 2 ^ (31 - m) = b / 2 ^ (31 - m)) ∧ Hid (Keep w X)) (fun i _ => 32 - (intOf i).toNat)
  case atStart => exact ⟨0, rfl, by omega, Lib.hid (fun m h => by omega), Lib.hid (Keep.refl w)⟩
  case round =>
    obtain ⟨n, rfl, hn, HE, HK⟩ := hrel
    by_cases h32 : n < 32
    · have hd : decide ((n : Int) < 32) = true := decide_eq_true (by omega)
      have hp1 := pw_pos (31 - n)
      have hz : ¬ pw (31 - n) = 0 := by omega
      have hh := fun W => half_is n (by omega) W
      obtain ⟨p, hp⟩ : ∃ p, p = pw (31 - n) := ⟨_, rfl⟩
      rw [← hp] at hp1 hz hh
      have HP := Lib.hid (show p = (2 : Int) ^ (31 - n) by rw [hp, pw_int])
      clear hp
      have hp0 : 0 < p := by omega
      have e1 : ∀ x : Int, 0 ≤ x ∧ x < 4294967296 → x.tdiv p % 4294967296 = x / p := fun x hx => by
        rw [Int.tdiv_eq_ediv_of_nonneg hx.1]
        have h0 : 0 ≤ x / p := Int.ediv_nonneg hx.1 (by omega)
        have h1 : x / p ≤ x := Int.ediv_le_self p hx.1
        omega
      have ea := e1 a HA.out
      have eb := e1 b HB.out
      clear e1
      by_cases hq : a / p = b / p
      · have hqb : (a.tdiv p % 4294967296 == b.tdiv p % 4294967296) = true := by rw [ea, eb, hq]; simp
        have HE' := Lib.hid (show ∀ m, m < n + 1 → a / 2 ^ (31 - m) = b / 2 ^ (31 - m) from fun m hm => by
          rcases Nat.lt_succ_iff_lt_or_eq.1 hm with h | rfl
          · exact HE.out m h
          · rw [← HP.out]; exact hq)
        clear ea eb hq HE
        go_wp2_with fail
        go_quiet (first | (go_at_call 60; refine Calls.quiet_of_same (hh _)))
        have HK' := Lib.hid (HK.out.trans ((Keep.refl wr).drewN nq))
        clear HK hh hqb
        go_wp2
        go_roundw
        case rel => exact ⟨n + 1, by go_num, by omega, HE', HK'⟩
        case measure => simp [intOf]; omega
      · have hqb : (a.tdiv p % 4294967296 == b.tdiv p % 4294967296) = false := by rw [ea, eb, beq_eq_false_iff_ne]; exact hq
        have hlk := lk_at (n := n) (by omega) HA.out HB.out HE.out (by rw [← HP.out]; exact hq)
        have HLK := Lib.hid (show (n : Int) = 32 - ((lk [a] b 32 : Nat) : Int) by omega)
        clear ea eb hq HE hlk
        go_wp2_with fail
        go_quiet (first | (go_at_call 60; refine Calls.quiet_of_same (hh _)))
        have HK' := Lib.hid (HK.out.trans ((Keep.refl wr).drewN nq))
        clear HK hh hqb
        go_wp2
        go_ret
        exact ⟨by rw [HLK.out]; rfl, HK'.out⟩
    · obtain rfl : n = 32 := by omega
      have hd : decide (((32 : Nat) : Int) < 32) = false := by decide
      have hab : a = b := by
        have := HE.out 31 (by omega)
        simpa using this
      subst hab
      have HLK := Lib.hid (lk_self a)
      clear HE
      go_wp2_with fail
      go_quiet (first | (go_at_call 60; refine Calls.quiet_of_same (half_is 0 (by omega) _)))
      have HK' := Lib.hid (HK.out.trans ((Keep.refl wr).drewN nq))
      clear HK
      go_wp2
      go_ret
      exact ⟨by rw [HLK.out]; rfl, HK'.out⟩
/-- How many beginnings keys have; the last one stands first. -/
def nd : List Int → Nat
  | [] => 0
  | k :: K => nd K + lk K k 32
theorem nd_le : ∀ K : List Int, nd K ≤ 33 * K.length
  | [] => by simp [nd]
  | k :: K => by
    have h1 := nd_le K
    have h2 := lk_le K k 32
    simp only [nd, List.length_cons]
    omega
theorem rev_take {zs : List Int} {j : Nat} {z : Int} (h : zs[j]? = some z) : (zs.take (j + 1)).reverse = z :: (zs.take j).reverse := by
  rw [List.take_add_one, h]
  simp
set_option maxRecDepth 100000 in
set_option maxHeartbeats 2000000 in
theorem rnodes_is (A : Option Addr) (n c : Nat) (zs : List Int) (w : World) (h : Lies w w.heap.size A n (vals .u32 zs)) (hz : ∀ z ∈ zs, 0 ≤ z ∧ z < 4294967296) (hn : n ≤ 1000) :
    Calls Try.prog 21 #[.slice A n c] w fun e w' => e = .returned (.int .i64 ((nd zs.reverse : Nat) : Int)) ∧ Keep w w' := by
  have hzl : zs.length = n := by have := h.1; rwa [vals_length] at this
  have HZ := Lib.hid hz
  have HZL := Lib.hid hzl
  have HC : Hid (∀ X, Keep w X → ∀ j z, zs[j]? = some z → ∃ b off, A = some ⟨b, off, none⟩ ∧ X.cell? ⟨b, off + j, none⟩ = some (.int .u32 z)) := Lib.hid (fun X hX j z hj => by
    have hjl := (List.getElem?_eq_some_iff.1 hj).1
    obtain ⟨b, off, e, hb, hc⟩ := h.2 (by omega)
    refine ⟨b, off, e, ?_⟩
    rw [hX.cell (p := ⟨b, off + j, none⟩) hb, hc j (by omega), vals_getD _ _ _ hjl, List.getD_eq_getElem?_getD, hj]
    rfl)
  clear h hz hzl
  go_enter Try.func21, Try.ntmps21
  go_wp2_with fail
  go_loopw [3, 4] (fun m i X => ∃ k : Nat, i = .int .i64 k ∧ k ≤ n ∧ m = .int .i64 ((nd (zs.take k).reverse : Nat) : Int) ∧ Hid (Keep w X)) (fun _ i _ => n - (intOf i).toNat)
  case atStart => exact ⟨0, rfl, by omega, rfl, Lib.hid (Keep.refl w)⟩
  case round =>
    obtain ⟨k, rfl, hk, rfl, HK⟩ := hrel
    by_cases hlt : k < n
    · obtain ⟨key, hkey⟩ : ∃ key, zs[k]? = some key := ⟨_, List.getElem?_eq_getElem (by rw [HZL.out]; exact hlt)⟩
      have hkr := HZ.out key (List.mem_of_getElem? hkey)
      have hnx := rev_take hkey
      have hnd : nd (zs.take (k + 1)).reverse = nd (zs.take k).reverse + lk (zs.take k).reverse key 32 := by rw [hnx]; rfl
      have hle : nd (zs.take k).reverse ≤ 33 * 1000 := Nat.le_trans (nd_le _) (by rw [List.length_reverse, List.length_take]; omega)
      have HND := Lib.hid hnd
      have HKEY := Lib.hid hkey
      have HKR := Lib.hid hkr
      have hkI : (k : Int) < (n : Int) := by omega
      obtain ⟨base, hbase⟩ : ∃ base, base = nd (zs.take k).reverse := ⟨_, rfl⟩
      rw [← hbase] at hle ⊢
      have HBA := Lib.hid hbase
      clear hnx hnd hkey hkr hbase
      go_wp2_with fail
      go_loopw [5, 6] (fun m i X => ∃ j : Nat, i = .int .i64 j ∧ j ≤ k ∧ m = .int .i64 (32 - ((lk (zs.take j).reverse key 32 : Nat) : Int)) ∧ Hid (Keep w X)) (fun _ i _ => k - (intOf i).toNat)
      case atStart => exact ⟨0, rfl, by omega, by rw [List.take_zero, List.reverse_nil, lk_nil]; rfl, HK⟩
      case round =>
        obtain ⟨j, rfl, hj, rfl, HK2⟩ := hrel
        clear HK
        by_cases hjk : j < k
        · obtain ⟨z, hz⟩ : ∃ z, zs[j]? = some z := ⟨_, List.getElem?_eq_getElem (by rw [HZL.out]; omega)⟩
          have hzr := HZ.out z (List.mem_of_getElem? hz)
          have hal := fun W => alike_is z key hzr HKR.out W
          have hnx := lk_cons z (zs.take j).reverse key 32
          rw [← rev_take hz] at hnx
          have HNX := Lib.hid hnx
          obtain ⟨b, off, hA, c0⟩ := HC.out _ HK2.out j z hz
          obtain ⟨b', off', hA', c1⟩ := HC.out _ HK2.out k key HKEY.out
          rw [hA] at hA'
          obtain ⟨rfl, rfl⟩ : b = b' ∧ off = off' := by simpa using hA'
          subst hA
          have hjI : (j : Int) < (k : Int) := by omega
          have hjn : (j : Int) < (n : Int) := by omega
          obtain ⟨p, hp⟩ : ∃ p, p = lk (zs.take j).reverse key 32 := ⟨_, rfl⟩
          obtain ⟨q, hq⟩ : ∃ q, q = lk [z] key 32 := ⟨_, rfl⟩
          rw [← hp, ← hq] at hnx
          rw [← hp]
          rw [← hq] at hal
          have HNX := Lib.hid hnx
          have HZJ := Lib.hid hz
          clear hz hzr hnx hA'
          have hq33 : q ≤ 33 ∧ p ≤ 33 := ⟨by rw [hq]; exact lk_le _ _ 32, by rw [hp]; exact lk_le _ _ 32⟩
          clear hp hq
          have HK3 := HK2
          have HBOX := Lib.hid (show ∀ W, Keep wr W → W.cell? ⟨b, off + j, none⟩ = some (.int .u32 z) ∧ W.cell? ⟨b, off + k, none⟩ = some (.int .u32 key) from fun W hW => by
            obtain ⟨b1, off1, e1, d0⟩ := HC.out _ (HK2.out.trans hW) j z HZJ.out
            obtain ⟨b2, off2, e2, d1⟩ := HC.out _ (HK2.out.trans hW) k key HKEY.out
            cases e1
            cases e2
            exact ⟨d0, d1⟩)
          clear c0 c1
          go_wp2_with fail
          have hKc := (Keep.refl wr).drew
          refine seq_region (S := fun w' => Keep wr w') [⟨0, 1, 524288⟩, ⟨0, 64, 1048576⟩, ⟨3, 1572864, 2097152⟩, ⟨4, 2097152, 4194304⟩, ⟨0, 1, 8388608⟩, ⟨0, 16, 16777216⟩, ⟨48, 25165824, 33554432⟩, ⟨64, 33554432, 67108864⟩, ⟨136, 71303168, 134217728⟩, ⟨511, 134217728, 128⟩] [(0, false), (1, false), (2, false), (3, false), (4, false), (5, false), (6, false), (7, false), (8, true), (9, false)] rfl (by kernel_rfl) (by kernel_rfl) (fun _ _ d _ _ h => by cases d <;> exact h) hKc ?_
          simp only [rowsOf, rowAt, gslot, List.map_cons, List.map_nil, List.getElem?_toArray, List.getElem?_cons_zero, List.getElem?_cons_succ]
          repeat (first
            | (refine seq_take (v := ?_) (a' := ?_) (by rfl) ?_ ?_ ?_
               rotate_left 2
               · (intro w hSw; have hcs := HBOX.out w hSw; clear hSw; go_split_ands; go_simp; with_reducible rfl)
               · (simp only [Act.put, List.setIfInBounds_toArray, List.set_cons_zero, List.set_cons_succ]; with_reducible rfl))
            | (refine seq_skip (a' := ?_) hKc (by rfl) ?_ ?_
               rotate_left
               · (simp only [Act.put, List.setIfInBounds_toArray, List.set_cons_zero, List.set_cons_succ]; with_reducible rfl)))
          refine seq_callR (R := fun _ => True) (f := 37) (args := ?_) (v := ?_) (a' := ?_) (by rfl) (by rfl) (by rfl) Try.call37 ?_ ?_ ?_ ?_
          rotate_left 3
          · (go_simp; with_reducible rfl)
          · ((with_reducible refine Calls.mono (hal _) ?_)
             rintro e w' ⟨rfl, hk⟩
             refine ⟨?_, hKc.trans hk, trivial⟩
             with_reducible rfl)
          · (simp only [Act.put, List.setIfInBounds_toArray, List.set_cons_zero, List.set_cons_succ]; with_reducible rfl)
          clear hKc
          intro wn hKc _
          repeat (first
            | (refine seq_take (v := ?_) (a' := ?_) (by rfl) ?_ ?_ ?_
               rotate_left 2
               · (intro w hSw; have hcs := HBOX.out w hSw; clear hSw; go_split_ands; go_simp; with_reducible rfl)
               · (simp only [Act.put, List.setIfInBounds_toArray, List.set_cons_zero, List.set_cons_succ]; with_reducible rfl))
            | (refine seq_skip (a' := ?_) hKc (by rfl) ?_ ?_
               rotate_left
               · (simp only [Act.put, List.setIfInBounds_toArray, List.set_cons_zero, List.set_cons_succ]; with_reducible rfl)))
          refine seq_nil ?_
          have HKN := Lib.hid (HK2.out.trans hKc)
          clear hKc HBOX HK2 hal
          by_cases hqp : q < p
          · have hd : (32 : Int) - (p : Int) < 32 - (q : Int) := by omega
            go_wp2
            go_roundw
            case rel => exact ⟨j + 1, by go_num, by omega, by rw [HNX.out, Nat.min_eq_right (by omega)], HKN⟩
            case measure => simp [intOf]; omega
          · have hd : ¬ (32 : Int) - (p : Int) < 32 - (q : Int) := by omega
            go_wp2
            go_roundw
            case rel => exact ⟨j + 1, by go_num, by omega, by rw [HNX.out, Nat.min_eq_left (by omega)], HKN⟩
            case measure => simp [intOf]; omega
        · have hje : j = k := by omega
          subst hje
          have hjI : ¬ (j : Int) < (j : Int) := by omega
          obtain ⟨p, hp⟩ : ∃ p, p = lk (zs.take j).reverse key 32 := ⟨_, rfl⟩
          have hp33 : p ≤ 33 := by rw [hp]; exact lk_le _ _ 32
          have HND' := Lib.hid (show (nd (zs.take (j + 1)).reverse : Int) = (base : Int) + (p : Int) by rw [HND.out, HBA.out, hp]; omega)
          rw [← hp]
          have hw : IntKind.i64.wrap ((base : Int) + 32 - (32 - (p : Int))) = (base : Int) + (p : Int) := by rw [IntKind.wrap_i64]; omega
          clear hp HND HBA
          go_wp2
          go_roundw
          case rel => exact ⟨j + 1, by go_num, by omega, by rw [HND'.out], HK2⟩
          case measure => simp [intOf]; omega
    · have hke : k = n := by omega
      subst hke
      have hkI : ¬ (k : Int) < (k : Int) := by omega
      have HT := Lib.hid (show zs.take k = zs from List.take_of_length_le (by rw [HZL.out]; exact Nat.le_refl _))
      go_wp2
      go_ret
      exact ⟨by rw [HT.out]; rfl, HK.out⟩
end Go.Proofs.Ytopengbflnoneaa
