/- The law's own example: it says true. -/
import Derived.Test.YtoilbmhijjkkaabOctRead2
namespace Go.Proofs.Ytoilbmhijjkkaab
open Go.RowKit

theorem conv_any (A : Option Addr) (n c : Nat) (xs : List Int) (w : World) (B : Nat) (hl : Lies w B A n (vals .u8 xs)) : (convert 25 9 (.slice A n c)).run Try.prog w = .ok (.string (strOfNums xs)) w := by
  have hn : xs.length = n := by have := hl.1; rwa [vals_length] at this
  by_cases hp : 0 < n
  · obtain ⟨b, off, rfl, _, hc⟩ := hl.2 hp
    exact run_convert_bytes_arg w 25 5 Try.underlying25 Try.underlying5 b off n c xs hn (fun i hi => by rw [hc i hi, vals_getD _ _ _ (by omega)]) 9 Try.underlying9
  · obtain rfl : n = 0 := by omega
    have : xs = [] := List.eq_nil_of_length_eq_zero hn
    subst this
    rcases A with _ | ⟨b, off, spot⟩
    · exact run_convert_bytes_nil w 25 5 Try.underlying25 Try.underlying5 0 c 9 Try.underlying9
    · rw [run_convert_bytes_string w 25 9 5 _ 0 c Try.underlying25 Try.underlying5 Try.underlying9, run_bytesToString w _ 0 c [] (by simp [loadCells, loadCellsFrom])]
      rfl

theorem wr_new (w : World) : Wr (w.alloc (.cells #[.slice none 0 0] 27)) w.heap.size (.slice none 0 0) [] := ⟨Boxed.new w 27 _, World.ownsRow_nil _ _ _ _⟩
theorem Wr.only {w w' : World} {S : Nat → Prop} {b : Nat} {v : Value} {xs : List Int} (h : Wr w b v xs) (ho : Only S w w') (hS : ∀ k, OfWr b v k → ¬ S k) : Wr w' b v xs :=
  ⟨Boxed.only h.1 ho (hS b (.inl rfl)), ownsRow_only h.2 ho (fun g hg => hS g (.inr hg))⟩
theorem Wr.keep {w w' : World} {b : Nat} {v : Value} {xs : List Int} (h : Wr w b v xs) (hk : Keep w w') : Wr w' b v xs := h.only (Only.of_keep (fun _ => False) hk) (fun _ _ h => h)
theorem wr_keep {w wa wb : World} {b : Nat} {v : Value} {xs : List Int} (hk : Keep w wa) (hw : Wr wa b v xs) (hb : w.heap.size ≤ b) (ho : Only (OfWr b v) wa wb) : Keep w wb :=
  Only.keep hk ho (fun k h => by
    rcases h with rfl | h
    · exact hb
    · have := (hw.2.lt k h).1; omega)
theorem rd_keep {w wa wb : World} {b : Nat} (hk : Keep w wa) (hb : w.heap.size ≤ b) (ho : Only (fun k => k = b) wa wb) : Keep w wb := Only.keep hk ho (fun k h => by rw [h]; exact hb)
theorem Rd.keep {w w' : World} {b : Nat} {bad : Bool} {xs : List Int} (h : Rd w b bad xs) (hk : Keep w w') : Rd w' b bad xs := h.only (Only.of_keep (fun _ => False) hk) (fun _ _ h => h)
theorem Lies.keep {w w' : World} {B : Nat} {A : Option Addr} {n : Nat} {xs : List Value} (h : Lies w B A n xs) (hk : Keep w w') (hB : B ≤ w.heap.size) : Lies w' B A n xs := h.below (Below.mono hk hB)
theorem Lies.rd {w w' : World} {B b : Nat} {A : Option Addr} {n : Nat} {xs : List Value} (h : Lies w B A n xs) (ho : Only (fun k => k = b) w w') (hB : B ≤ b) (hB2 : B ≤ w.heap.size) : Lies w' B A n xs := h.below (ho.below hB2 (fun k e => by rw [e]; exact hB))

theorem p1 : [] ++ putB 258 (fsz 2).toNat = [1, 2] := by decide +kernel
theorem p2 : [1, 2] ++ putB (-2) (fsz 4).toNat = [1, 2, 255, 255, 255, 254] := by decide +kernel
theorem g1 : getB ([1, 2, 255, 255, 255, 254, 9].take 2) = 258 := by decide +kernel
theorem g2 : sgnI (getB ([255, 255, 255, 254, 9].take 4)) (((4 : Nat) : Int) * 8) = -2 := by decide +kernel
theorem by1 : Byt [1, 2, 255, 255, 255, 254, 9] := by unfold Byt; decide
theorem by2 : Byt [255, 255, 255, 254, 9] := by unfold Byt; decide

set_option maxRecDepth 100000 in
set_option maxHeartbeats 2000000 in
theorem alive_any (w : World) : Calls Try.prog 9 #[] w fun e w' => e = .returned (.bool true) ∧ Keep w w' := by
  go_enter Try.func9, Try.ntmps9
  go_wp2_with fail
  have hw0 := wr_new w
  have hk0 : Keep w (w.alloc (.cells #[.slice none 0 0] 27)) := (Keep.refl w).alloc _
  refine (put_any 258 2 w.heap.size _ [] _ hw0 (by simp)).mono ?_
  rintro e w1 ⟨rfl, v1, hw1, ho1, -⟩
  rw [p1] at hw1
  have hk1 := wr_keep hk0 hw0 (Nat.le_refl _) ho1
  clear hw0 hk0 ho1
  go_wp2_with fail
  refine (wint_any (-2) 4 w.heap.size v1 [1, 2] w1 hw1 (by simp)).mono ?_
  rintro e w2 ⟨rfl, v2, hw2, ho2, -⟩
  rw [p2] at hw2
  have hk2 := wr_keep hk1 hw1 (Nat.le_refl _) ho2
  clear hw1 hk1 ho2
  go_wp2_with fail
  have hw2a := hw2.keep ((Keep.refl w2).alloc (.cells #[.int .u8 9] 5))
  have hk2a := hk2.alloc (.cells #[.int .u8 9] 5)
  have hl2 : Lies (w2.alloc (.cells #[.int .u8 9] 5)) (w2.heap.size + 1) (some ⟨w2.heap.size, 0, none⟩) 1 (vals .u8 [9]) := by
    refine ⟨rfl, fun _ => ⟨w2.heap.size, 0, rfl, by omega, fun k hk => ?_⟩⟩
    obtain rfl : k = 0 := by omega
    simp [vals]
  refine (wraw_any _ 1 1 [9] _ w.heap.size v2 _ _ hw2a (by simp) (by omega) hl2 (by simp)).mono ?_
  rintro e w3 ⟨rfl, v3, hw3, ho3, -⟩
  replace hw3 : Wr w3 w.heap.size v3 [1, 2, 255, 255, 255, 254, 9] := hw3
  have hk3 := wr_keep hk2a hw2a (Nat.le_refl _) ho3
  clear hw2 hk2 hw2a hk2a hl2 ho3
  go_wp2_with fail
  refine (done_any w.heap.size v3 _ w3 hw3 (by simp)).mono ?_
  rintro e w4 ⟨v4, rfl, hr4, hk34⟩
  have hk4 := hk3.trans hk34
  obtain ⟨A4, c4, rfl, hl4⟩ := Lies.of_row hr4
  clear hw3 hk3 hk34 hr4
  go_wp2_with fail
  refine (open_any A4 _ c4 _ w4 w4.heap.size (by simp) (Nat.le_refl _) hl4).mono ?_
  rintro e w5 ⟨b, rfl, hb, hr5, hk45⟩
  have hk5 := hk4.trans hk45
  have hl5 := hl4.keep hk45 (Nat.le_refl _)
  have hbw : w.heap.size ≤ b := Nat.le_trans hk4.size hb
  have hs45 := hk45.size
  clear hl4 hk45
  go_wp2_with fail
  refine (get_ok 2 2 b _ w5 hr5 (by simp) by1 rfl (by simp)).mono ?_
  rintro e w6 ⟨rfl, hr6, ho6⟩
  rw [g1]
  replace hr6 : Rd w6 b false [255, 255, 255, 254, 9] := hr6
  have hk6 := rd_keep hk5 hbw ho6
  have hl6 := hl5.rd ho6 hb (by omega)
  have hs6 := ho6.size
  clear hr5 hk5 hl5 ho6
  go_wp2_with fail
  refine (rint_ok 4 4 b _ w6 hr6 (by simp) by2 rfl (by simp)).mono ?_
  rintro e w7 ⟨rfl, hr7, ho7⟩
  rw [g2]
  replace hr7 : Rd w7 b false [9] := hr7
  have hk7 := rd_keep hk6 hbw ho7
  have hl7 := hl6.rd ho7 hb (by omega)
  have hs7 := ho7.size
  clear hr6 hk6 hl6 ho7
  go_wp2_with fail
  refine (rraw_ok 1 1 b _ w7 hr7 (by simp) rfl (by simp)).mono ?_
  rintro e w8 ⟨v8, rfl, hrow8, hr8, ho8⟩
  replace hr8 : Rd w8 b false [] := hr8
  replace hrow8 : w8.ownsRow w7.heap.size 5 1 v8 1 (vals .u8 [9]) := hrow8
  have hk8 := rd_keep hk7 hbw ho8
  have hl8 := hl7.rd ho8 hb (by omega)
  have hs8 := ho8.size
  obtain ⟨A8, c8, rfl, hm8⟩ := Lies.of_row hrow8
  have hbl := hr7.lt
  clear hr7 hk7 hl7 ho8 hm8
  go_wp2_with (first
    | (go_at_call 28; refine (bad_any b _ _ _ hr8).mono ?_; rintro e w' ⟨rfl, rfl⟩)
    | (go_at_call 27; refine (left_any b _ _ _ hr8).mono ?_; rintro e w' ⟨rfl, rfl⟩))
  refine (get_bad 1 b [] false w8 hr8 (.inr (by decide))).mono ?_
  rintro e w9 ⟨rfl, hr9, ho9⟩
  have hk9 := rd_keep hk8 hbw ho9
  have hl9 := hl8.rd ho9 hb (by omega)
  have hrow9 := ownsRow_only hrow8 ho9 (fun g hg e => by have := (hrow8.lt g hg).1; omega)
  obtain ⟨A9, c9, e9, hm9⟩ := Lies.of_row hrow9
  injection e9 with e91 e92 e93
  subst e91 e93
  have cv1 := conv_any A4 7 c4 _ w9 _ hl9
  have cv2 := conv_any A8 1 c8 _ w9 _ hm9
  have s1 : strOfNums [1, 2, 255, 255, 255, 254, 9] = ⟨#[1, 2, 255, 255, 255, 254, 9]⟩ := by decide +kernel
  have s2 : strOfNums [9] = ⟨#[9]⟩ := by decide +kernel
  rw [s1] at cv1
  rw [s2] at cv2
  clear s1 s2 hrow8 hrow9 hl8 hl9 hm9 hr8 hk8 ho9
  go_wp2_with (first
    | (go_at_call 28; refine (bad_any b _ _ _ hr9).mono ?_; rintro e w' ⟨rfl, rfl⟩))
  go_ret
  exact ⟨rfl, hk9⟩
end Go.Proofs.Ytoilbmhijjkkaab
