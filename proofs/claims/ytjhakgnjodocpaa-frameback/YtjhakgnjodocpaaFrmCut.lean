/- frame.cut, frame.Next, frame.Wrap: what each call answers. -/
import Derived.Test.YtjhakgnjodocpaaFrmBase
import Derived.Test.YtjhakgnjodocpaaSeq
namespace Go.Proofs.Ytjhakgnjodocpaa
open Go.RowKit

/-- How many bytes the head tells of. -/
def hd (xs : List Int) : Nat := (getB (xs.take 2)).toNat
/-- The error of a cut. -/
def cutE (xs : List Int) : Int := if xs.length < 2 then 20 else if 1024 < hd xs then 2 else if xs.length < 2 + hd xs then 20 else 0
theorem hd_get {xs : List Int} (hb : Byt xs) (h : 2 ≤ xs.length) : getB (xs.take 2) = (hd xs : Int) ∧ hd xs < 65536 := by
  obtain ⟨h1, h2⟩ := getB_bd 2 xs hb h
  rw [show pow256 2 = 65536 from rfl] at h2
  unfold hd
  omega

/-- What a cut answers where there is no frame. -/
def CutNo (w : World) (er : Int) (e : Ending) (w' : World) : Prop := e = .returned (.tuple #[.slice none 0 0, .slice none 0 0, .int .i64 er]) ∧ Keep w w'
/-- What a cut answers where there is one. -/
def CutOk (w : World) (B n k : Nat) (xs : List Int) (A : Option Addr) (e : Ending) (w' : World) : Prop :=
  ∃ A1 c1 A2 c2, A2.map Addr.block = A.map Addr.block ∧ e = .returned (.tuple #[.slice A1 k c1, .slice A2 (n - (2 + k)) c2, .int .i64 0]) ∧ By w' B A1 k c1 ((xs.drop 2).take k) ∧ By w' B A2 (n - (2 + k)) c2 (xs.drop (2 + k)) ∧ Keep w w'

set_option maxRecDepth 100000 in
set_option maxHeartbeats 1000000 in
theorem cut_short (A : Option Addr) (n c : Nat) (xs : List Int) (w : World) (B : Nat) (hB : B ≤ w.heap.size) (hy : By w B A n c xs) (h : n < 2) :
    Calls Try.prog 20 #[.slice A n c] w (CutNo w 20) := by
  obtain ⟨hl, hcap, hnil⟩ := hy
  have hxl : xs.length = n := by have := hl.1; rwa [vals_length] at this
  have HO := Lib.hid (fun c' => open_any A n c' xs w B (by omega) hB hl)
  have HX := Lib.hid hxl
  have hc1 : (n : Int) ≤ (c : Int) := by omega
  have hn2 : (n : Int) < 2 := by omega
  clear hl hxl
  have HN := Lib.hid hnil
  clear hnil
  rcases A with _ | ad
  · obtain rfl := HN.out rfl
    obtain rfl : n = 0 := by omega
    go_enter Try.func20, Try.ntmps20
    go_wp2_with fail
    refine (HO.out 0).mono ?_
    rintro e w1 ⟨b1, rfl, hb1, hr1, hk1⟩
    go_wp2_with fail
    refine (get_bad 2 b1 xs false w1 hr1 (.inr (by rw [HX.out]; decide))).mono ?_
    rintro e w2 ⟨rfl, hr2, ho2⟩
    have hk2 := rd_keep hk1 hb1 ho2
    go_wp2_with (go_at_call 31; refine (bad_any b1 _ _ _ hr2).mono ?_; rintro e w' ⟨rfl, rfl⟩)
    exact bodyPost_ret (v := .tuple #[.slice none 0 0, .slice none 0 0, .int .i64 20]) (by simp [results, Try.results20, go_sem]) rfl ⟨rfl, hk2⟩
  · go_enter Try.func20, Try.ntmps20
    go_wp2_with fail
    refine (HO.out _).mono ?_
    rintro e w1 ⟨b1, rfl, hb1, hr1, hk1⟩
    go_wp2_with fail
    refine (get_bad 2 b1 xs false w1 hr1 (.inr (by rw [HX.out, show fsz 2 = 2 from rfl]; exact hn2))).mono ?_
    rintro e w2 ⟨rfl, hr2, ho2⟩
    have hk2 := rd_keep hk1 hb1 ho2
    go_wp2_with (go_at_call 31; refine (bad_any b1 _ _ _ hr2).mono ?_; rintro e w' ⟨rfl, rfl⟩)
    exact bodyPost_ret (v := .tuple #[.slice none 0 0, .slice none 0 0, .int .i64 20]) (by simp [results, Try.results20, go_sem]) rfl ⟨rfl, hk2⟩

set_option maxRecDepth 100000 in
set_option maxHeartbeats 1000000 in
/-- Two bytes are there. -/
theorem cut_more (b off n c k : Nat) (xs : List Int) (w : World) (B : Nat) (hB : B ≤ w.heap.size) (hy : By w B (some ⟨b, off, none⟩) n c xs) (hby : Byt xs) (h2 : 2 ≤ n) (hn : n ≤ 1099511627776) (hk : hd xs = k) (e : Int)
    (hcs : (1024 < k ∧ e = 2) ∨ (k ≤ 1024 ∧ n < 2 + k ∧ e = 20)) :
    Calls Try.prog 20 #[.slice (some ⟨b, off, none⟩) n c] w (CutNo w e) := by
  obtain ⟨hl, hcap, hnil⟩ := hy
  have hxl : xs.length = n := by have := hl.1; rwa [vals_length] at this
  obtain ⟨hg, hg2⟩ := hd_get hby (by omega)
  rw [hk] at hg hg2
  have hl2 := hl.part 0 2 (by omega)
  rw [vals_part, List.drop_zero] at hl2
  have HO := Lib.hid (fun c' => open_any (some ⟨b, off + 0, none⟩) 2 c' (xs.take 2) w B (by omega) hB hl2)
  have HG := Lib.hid hg
  have HB := Lib.hid (hby.take 2)
  have ht2 : (xs.take 2).length = 2 := by simp; omega
  have HT := Lib.hid ht2
  have hc1 : (n : Int) ≤ (c : Int) := by omega
  have hc2 : (2 : Int) ≤ (c : Int) := by omega
  clear hl hl2 hxl hg hnil ht2 hk hby
  have h22 : n = 2 ∨ 2 < n := by omega
  rcases hcs with ⟨h1, rfl⟩ | ⟨h1, h3, rfl⟩ <;> rcases h22 with rfl | h4
  all_goals
    go_enter Try.func20, Try.ntmps20
    go_wp2_with fail
    refine (HO.out _).mono ?_
    rintro e w1 ⟨b1, rfl, hb1, hr1, hk1⟩
    go_wp2_with fail
    refine (get_ok 2 2 b1 _ w1 hr1 (by rw [HT.out]; omega) HB.out rfl (by rw [HT.out]; omega)).mono ?_
    rintro e w2 ⟨rfl, hr2, ho2⟩
    rw [List.take_take, show min 2 2 = 2 from rfl, HG.out]
    have hk2 := rd_keep hk1 hb1 ho2
    clear ho2 hk1 hr1
    go_wp2_with (go_at_call 31; refine (bad_any b1 _ _ _ hr2).mono ?_; rintro e w' ⟨rfl, rfl⟩)
    exact bodyPost_ret (v := .tuple #[.slice none 0 0, .slice none 0 0, .int .i64 _]) (by simp [results, Try.results20, go_sem]) rfl ⟨rfl, hk2⟩

theorem cut_fin {w2 w : World} {b off n c k B : Nat} {xs : List Int} {A1 A2 : Option Addr} {c1 c2 : Nat} (hy : By w2 B (some ⟨b, off, none⟩) n c xs) (hk : Keep w w2) (hkn : 2 + k ≤ n)
    (h1 : (A1 = some ⟨b, off + 2, none⟩ ∨ (k = 0 ∧ A1 = some ⟨b, off, none⟩)) ∧ k ≤ c1) (h2 : (A2 = some ⟨b, off + (2 + k), none⟩ ∨ (n = 2 + k ∧ A2 = some ⟨b, off, none⟩)) ∧ n - (2 + k) ≤ c2) :
    CutOk w B n k xs (some ⟨b, off, none⟩) (.returned (.tuple #[.slice A1 k c1, .slice A2 (n - (2 + k)) c2, .int .i64 0])) w2 := by
  have hxl := hy.len
  refine ⟨A1, c1, A2, c2, by rcases h2.1 with rfl | ⟨_, rfl⟩ <;> rfl, rfl, ⟨?_, h1.2, ?_⟩, ⟨?_, h2.2, ?_⟩, hk⟩
  · rcases h1.1 with rfl | ⟨rfl, rfl⟩
    · have := hy.lies.part 2 k (by omega)
      rw [vals_part] at this
      exact this
    · rw [List.take_zero]
      exact Lies.nil w2 B _
  · rcases h1.1 with rfl | ⟨_, rfl⟩ <;> (intro h; cases h)
  · rcases h2.1 with rfl | ⟨h, rfl⟩
    · have := hy.lies.part (2 + k) (n - (2 + k)) (by omega)
      rw [vals_part, List.take_of_length_le (by simp; omega)] at this
      exact this
    · rw [show n - (2 + k) = 0 from by omega, List.drop_eq_nil_of_le (by omega)]
      exact Lies.nil w2 B _
  · rcases h2.1 with rfl | ⟨_, rfl⟩ <;> (intro h; cases h)

set_option maxRecDepth 100000 in
set_option maxHeartbeats 1000000 in
theorem cut_ok (b off n c k : Nat) (xs : List Int) (w : World) (B : Nat) (hB : B ≤ w.heap.size) (hy : By w B (some ⟨b, off, none⟩) n c xs) (hby : Byt xs) (hn : n ≤ 1099511627776) (hk : hd xs = k) (h1 : k ≤ 1024) (h3 : 2 + k ≤ n) :
    Calls Try.prog 20 #[.slice (some ⟨b, off, none⟩) n c] w (CutOk w B n k xs (some ⟨b, off, none⟩)) := by
  obtain ⟨hl, hcap, hnil⟩ := id hy
  have hxl : xs.length = n := by have := hl.1; rwa [vals_length] at this
  obtain ⟨hg, hg2⟩ := hd_get hby (by omega)
  rw [hk] at hg hg2
  have hl2 := hl.part 0 2 (by omega)
  rw [vals_part, List.drop_zero] at hl2
  have HO := Lib.hid (fun c' => open_any (some ⟨b, off + 0, none⟩) 2 c' (xs.take 2) w B (by omega) hB hl2)
  have HG := Lib.hid hg
  have HB := Lib.hid (hby.take 2)
  have ht2 : (xs.take 2).length = 2 := by simp; omega
  have HT := Lib.hid ht2
  have HY := Lib.hid hy
  have hc1 : (n : Int) ≤ (c : Int) := by omega
  have hc2 : (2 : Int) ≤ (c : Int) := by omega
  obtain ⟨E, hE⟩ : ∃ E, E = 2 + k := ⟨_, rfl⟩
  have he : (2 : Int) + (k : Int) = (E : Int) := by omega
  have HK := Lib.hid (show k = E - 2 by omega)
  have hE2 : 2 ≤ E := by omega
  have hEn : E ≤ n := by omega
  have hEc : E ≤ c := by omega
  have hE3 : E ≤ 1026 := by omega
  have hi2 : (2 : Int) ≤ (E : Int) := by omega
  have hin : (E : Int) ≤ (n : Int) := by omega
  have hic : (E : Int) ≤ (c : Int) := by omega
  have hcs : (n = 2 ∧ E = 2 ∧ c = 2) ∨ (n = 2 ∧ E = 2 ∧ c ≠ 2) ∨ (2 < n ∧ n = E ∧ c = E) ∨ (2 < n ∧ c ≠ E) := by omega
  clear hl hl2 hxl hg hnil ht2 hk hby hy hE h1 h3 hg2
  rcases hcs with ⟨rfl, rfl, rfl⟩ | ⟨rfl, rfl, h5⟩ | ⟨h4, rfl, rfl⟩ | ⟨h4, h5⟩
  all_goals
    go_enter Try.func20, Try.ntmps20
    go_wp2_with fail
    refine (HO.out _).mono ?_
    rintro e w1 ⟨b1, rfl, hb1, hr1, hk1⟩
    go_wp2_with fail
    refine (get_ok 2 2 b1 _ w1 hr1 (by rw [HT.out]; omega) HB.out rfl (by rw [HT.out]; omega)).mono ?_
    rintro e w2 ⟨rfl, hr2, ho2⟩
    rw [List.take_take, show min 2 2 = 2 from rfl, HG.out]
    have hk2 := rd_keep hk1 hb1 ho2
    clear ho2 hk1 hr1
    go_wp2_with (go_at_call 31; refine (bad_any b1 _ _ _ hr2).mono ?_; rintro e w' ⟨rfl, rfl⟩)
    refine seq_region (S := fun w' => Keep w w') [⟨0, 1, 33554432⟩, ⟨0, 64, 67108864⟩, ⟨3, 100663296, 134217728⟩, ⟨0, 1, 268435456⟩, ⟨0, 64, 536870912⟩, ⟨24, 805306368, 1073741824⟩, ⟨7, 134217728, 4⟩, ⟨127, 1073741824, 8⟩, ⟨255, 0, 16⟩] [(0, false), (1, false), (2, false), (3, false), (4, false), (5, false), (6, false), (7, false), (8, false)] rfl (by kernel_rfl) (by kernel_rfl) (fun _ _ d _ _ h => by cases d <;> exact h) hk2.drew ?_
    simp only [rowsOf, rowAt, gslot, List.map_cons, List.map_nil, List.getElem?_toArray, List.getElem?_cons_zero, List.getElem?_cons_succ]
    repeat
      refine seq_take (v := ?_) (a' := ?_) (by rfl) ?_ ?_ ?_
      rotate_left 2
      · (intro w hSw; clear hSw; go_simp; with_reducible rfl)
      · (simp only [Act.put, List.setIfInBounds_toArray, List.set_cons_zero, List.set_cons_succ]; with_reducible rfl)
    refine seq_nil ?_
    go_wp2
    have hy2 := HY.out.keep hk2.drew hB
    have hkE := HK.out
    clear he
  · obtain rfl : k = 0 := by omega
    exact bodyPost_ret (v := .tuple #[.slice (some ⟨b, off, none⟩) 0 0, .slice (some ⟨b, off, none⟩) 0 0, .int .i64 0]) (by simp [results, Try.results20, go_sem]) rfl (cut_fin hy2 hk2.drew (by omega) ⟨.inr ⟨rfl, rfl⟩, by omega⟩ ⟨.inr ⟨rfl, rfl⟩, by omega⟩)
  · obtain rfl : k = 0 := by omega
    exact bodyPost_ret (v := .tuple #[.slice (some ⟨b, off + 2, none⟩) 0 (c - 2), .slice (some ⟨b, off + 2, none⟩) 0 (c - 2), .int .i64 0]) (by simp [results, Try.results20, go_sem]) rfl (cut_fin hy2 hk2.drew (by omega) ⟨.inl rfl, by omega⟩ ⟨.inl rfl, by omega⟩)
  · obtain rfl : c = 2 + k := by omega
    exact bodyPost_ret (v := .tuple #[.slice (some ⟨b, off + 2, none⟩) (2 + k - 2) (2 + k - 2), .slice (some ⟨b, off, none⟩) 0 0, .int .i64 0]) (by simp [results, Try.results20, go_sem]) rfl
      (by
        have := cut_fin (A1 := some ⟨b, off + 2, none⟩) (c1 := 2 + k - 2) (A2 := some ⟨b, off, none⟩) (c2 := 0) hy2 hk2.drew (by omega) ⟨.inl rfl, by omega⟩ ⟨.inr ⟨rfl, rfl⟩, by omega⟩
        rw [show 2 + k - (2 + k) = 0 from by omega] at this
        rw [show 2 + k - 2 = k from by omega] at this ⊢
        exact this)
  · obtain rfl : E = 2 + k := by omega
    exact bodyPost_ret (v := .tuple #[.slice (some ⟨b, off + 2, none⟩) (2 + k - 2) (c - 2), .slice (some ⟨b, off + (2 + k), none⟩) (n - (2 + k)) (c - (2 + k)), .int .i64 0]) (by simp [results, Try.results20, go_sem]) rfl
      (by
        have := cut_fin (A1 := some ⟨b, off + 2, none⟩) (c1 := c - 2) (A2 := some ⟨b, off + (2 + k), none⟩) (c2 := c - (2 + k)) hy2 hk2.drew (by omega) ⟨.inl rfl, by omega⟩ ⟨.inl rfl, by omega⟩
        rw [show 2 + k - 2 = k from by omega]
        exact this)

theorem cutE_eq (xs : List Int) : (xs.length < 2 ∧ cutE xs = 20) ∨ (2 ≤ xs.length ∧ ((1024 < hd xs ∧ cutE xs = 2) ∨ (hd xs ≤ 1024 ∧ xs.length < 2 + hd xs ∧ cutE xs = 20) ∨ (hd xs ≤ 1024 ∧ 2 + hd xs ≤ xs.length ∧ cutE xs = 0))) := by
  unfold cutE
  by_cases h1 : xs.length < 2
  · exact .inl ⟨h1, by rw [if_pos h1]⟩
  · refine .inr ⟨by omega, ?_⟩
    rw [if_neg h1]
    by_cases h2 : 1024 < hd xs
    · exact .inl ⟨h2, by rw [if_pos h2]⟩
    · rw [if_neg h2]
      by_cases h3 : xs.length < 2 + hd xs
      · exact .inr (.inl ⟨by omega, h3, by rw [if_pos h3]⟩)
      · exact .inr (.inr ⟨by omega, by omega, by rw [if_neg h3]⟩)
/-- A cut that finds no frame. -/
theorem cut_no (A : Option Addr) (n c : Nat) (xs : List Int) (w : World) (B : Nat) (hB : B ≤ w.heap.size) (hy : By w B A n c xs) (hby : Byt xs) (hn : n ≤ 1099511627776) (h : cutE xs ≠ 0) :
    Calls Try.prog 20 #[.slice A n c] w (CutNo w (cutE xs)) := by
  have hl := hy.len
  rcases cutE_eq xs with ⟨h1, h2⟩ | ⟨h1, h2⟩
  · rw [h2]
    exact cut_short A n c xs w B hB hy (by omega)
  · obtain ⟨b, off, rfl, _, _⟩ := hy.lies.2 (by omega)
    rcases h2 with ⟨h2, h3⟩ | ⟨h2, h3, h4⟩ | ⟨_, _, h4⟩
    · rw [h3]
      exact cut_more b off n c _ xs w B hB hy hby (by omega) hn rfl 2 (.inl ⟨h2, rfl⟩)
    · rw [h4]
      exact cut_more b off n c _ xs w B hB hy hby (by omega) hn rfl 20 (.inr ⟨h2, by omega, rfl⟩)
    · exact absurd h4 h
/-- A cut that finds one. -/
theorem cut_yes (A : Option Addr) (n c : Nat) (xs : List Int) (w : World) (B : Nat) (hB : B ≤ w.heap.size) (hy : By w B A n c xs) (hby : Byt xs) (hn : n ≤ 1099511627776) (h : cutE xs = 0) :
    Calls Try.prog 20 #[.slice A n c] w (CutOk w B n (hd xs) xs A) ∧ hd xs ≤ 1024 ∧ 2 + hd xs ≤ n := by
  have hl := hy.len
  rcases cutE_eq xs with ⟨_, h2⟩ | ⟨h1, h2⟩
  · rw [h2] at h; cases h
  · obtain ⟨b, off, rfl, _, _⟩ := hy.lies.2 (by omega)
    rcases h2 with ⟨_, h3⟩ | ⟨_, _, h4⟩ | ⟨h2, h3, _⟩
    · rw [h3] at h; cases h
    · rw [h4] at h; cases h
    · exact ⟨cut_ok b off n c _ xs w B hB hy hby hn rfl h2 (by omega), h2, by omega⟩

/-- What Next answers where there is no frame. -/
def NextNo (w : World) (er : Int) (e : Ending) (w' : World) : Prop := e = .returned (.tuple #[.slice none 0 0, .slice none 0 0, .int .i64 er]) ∧ Keep w w'
/-- Where there is one: body and rest, in memory of their own. -/
def NextYes (w : World) (body rest : List Int) (e : Ending) (w' : World) : Prop :=
  ∃ v1 v2, e = .returned (.tuple #[v1, v2, .int .i64 0]) ∧ w'.ownsRow w.heap.size 5 1 v1 body.length (vals .u8 body) ∧ w'.ownsRow w.heap.size 5 1 v2 rest.length (vals .u8 rest) ∧ Keep w w'

set_option maxHeartbeats 1000000 in
theorem next_no (A : Option Addr) (n c : Nat) (xs : List Int) (w : World) (B : Nat) (hB : B ≤ w.heap.size) (hy : By w B A n c xs) (hby : Byt xs) (hn : n ≤ 1099511627776) (h : cutE xs ≠ 0) :
    Calls Try.prog 10 #[.slice A n c] w (NextNo w (cutE xs)) := by
  have HC := Lib.hid (cut_no A n c xs w B hB hy hby hn h)
  clear h hy hby
  generalize cutE xs = er at *
  go_enter Try.func10, Try.ntmps10
  go_wp2_with (first
    | (go_at_call 20; refine HC.out.mono ?_; rintro e w1 ⟨rfl, hk1⟩)
    | (go_at_call 21; refine (clone_nil _ _ _).mono ?_; rintro e w' ⟨rfl, rfl⟩))
  exact bodyPost_ret (v := .tuple #[.slice none 0 0, .slice none 0 0, .int .i64 er]) (by simp [results, Try.results10, go_sem]) rfl ⟨rfl, hk1⟩

set_option maxHeartbeats 1000000 in
theorem next_yes (A : Option Addr) (n c : Nat) (xs : List Int) (w : World) (B : Nat) (hB : B ≤ w.heap.size) (hy : By w B A n c xs) (hby : Byt xs) (hn : n ≤ 1099511627776) (h : cutE xs = 0) :
    Calls Try.prog 10 #[.slice A n c] w (NextYes w ((xs.drop 2).take (hd xs)) (xs.drop (2 + hd xs))) := by
  obtain ⟨HC0, h1, h2⟩ := cut_yes A n c xs w B hB hy hby hn h
  have hl := hy.len
  have hl1 : ((xs.drop 2).take (hd xs)).length = hd xs := by simp; omega
  have hl2 : (xs.drop (2 + hd xs)).length = n - (2 + hd xs) := by simp; omega
  unfold CutOk at HC0
  have HC := Lib.hid HC0
  have HL1 := Lib.hid hl1
  have HL2 := Lib.hid hl2
  clear HC0 h hy hby hl hl1 hl2
  generalize (xs.drop 2).take (hd xs) = body at *
  generalize xs.drop (2 + hd xs) = rest at *
  generalize hd xs = k at *
  go_enter Try.func10, Try.ntmps10
  go_wp2_with fail
  refine HC.out.mono ?_
  rintro e w1 ⟨A1, c1, A2, c2, -, rfl, hy1, hy2, hk1⟩
  have hB1 : B ≤ w1.heap.size := Nat.le_trans hB hk1.size
  have H1 := Lib.hid hy1
  have H2 := Lib.hid hy2
  clear hy1 hy2 HC
  go_wp2_with fail
  refine (clone_any A1 k c1 body w1 B (by omega) hB1 H1.out.lies).mono ?_
  rintro e w2 ⟨v1, rfl, hr1, hk2⟩
  have hy2 := H2.out.keep hk2 hB1
  have H2' := Lib.hid hy2
  have hB2 : B ≤ w2.heap.size := Nat.le_trans hB1 hk2.size
  clear hy2
  go_wp2_with fail
  refine (clone_any A2 _ c2 rest w2 B (by omega) hB2 H2'.out.lies).mono ?_
  rintro e w3 ⟨v2, rfl, hr2, hk3⟩
  have hr1' := row_keep hr1 hk3
  go_wp2
  refine bodyPost_ret (v := .tuple #[v1, v2, .int .i64 0]) (by simp [results, Try.results10, go_sem]) rfl ⟨v1, v2, rfl, ?_, ?_, (hk1.trans hk2).trans hk3⟩
  · rw [HL1.out]
    exact ownsRow_le hr1' hk1.size
  · rw [HL2.out]
    exact ownsRow_le hr2 (Nat.le_trans hk1.size hk2.size)

/-- What Wrap answers. -/
def frm (xs : List Int) : List Int := putB xs.length 2 ++ xs
theorem frm_length (xs : List Int) : (frm xs).length = 2 + xs.length := by simp [frm, putB_length]
def WrapYes (w : World) (xs : List Int) (e : Ending) (w' : World) : Prop := ∃ v, e = .returned (.tuple #[v, .int .i64 0]) ∧ w'.ownsRow w.heap.size 5 1 v (frm xs).length (vals .u8 (frm xs)) ∧ Keep w w'
def WrapNo (w : World) (e : Ending) (w' : World) : Prop := e = .returned (.tuple #[.slice none 0 0, .int .i64 2]) ∧ Keep w w'
theorem wrap_no (A : Option Addr) (n c : Nat) (w : World) (h : 1024 < n) (hn : n ≤ 1099511627776) :
    Calls Try.prog 17 #[.slice A n c] w (WrapNo w) := by
  go_enter Try.func17, Try.ntmps17
  go_wp2
  exact bodyPost_ret (v := .tuple #[.slice none 0 0, .int .i64 2]) (by simp [results, Try.results17, go_sem]) rfl ⟨rfl, Keep.refl _⟩
set_option maxHeartbeats 1000000 in
theorem wrap_yes (A : Option Addr) (n c : Nat) (xs : List Int) (w : World) (B : Nat) (hB : B ≤ w.heap.size) (hy : By w B A n c xs) (h : n ≤ 1024) :
    Calls Try.prog 17 #[.slice A n c] w (WrapYes w xs) := by
  have HX := Lib.hid hy.len
  have HY := Lib.hid hy
  clear hy
  go_enter Try.func17, Try.ntmps17
  go_wp2_with fail
  have hw0 := wr_new w
  have hk0 : Keep w (w.alloc (.cells #[.slice none 0 0] 53)) := (Keep.refl w).alloc _
  refine (put_any (n : Int) 2 w.heap.size _ [] _ hw0 (by simp)).mono ?_
  rintro e w1 ⟨rfl, v1, hw1, ho1, -⟩
  rw [List.nil_append, show (fsz 2).toNat = 2 from rfl] at hw1
  have hk1 := wr_keep hk0 hw0 (Nat.le_refl _) ho1
  clear hw0 hk0 ho1
  have hy1 := HY.out.keep hk1 hB
  have HY1 := Lib.hid hy1
  clear hy1
  go_wp2_with fail
  refine (wraw_any A n c xs B w.heap.size v1 _ w1 hw1 (by rw [putB_length]; omega) (by omega) HY1.out.lies HY1.out.nil).mono ?_
  rintro e w2 ⟨rfl, v2, hw2, ho2, -⟩
  have hk2 := wr_keep hk1 hw1 (Nat.le_refl _) ho2
  rw [show putB (n : Int) 2 ++ xs = frm xs from by unfold frm; rw [HX.out]] at hw2
  clear hw1 hk1 ho2
  have hfl : (frm xs).length ≤ 1099511627776 := by rw [frm_length, HX.out]; omega
  have HFL := Lib.hid hfl
  clear hfl
  go_wp2_with fail
  refine (done_any w.heap.size v2 _ w2 hw2 HFL.out).mono ?_
  rintro e w3 ⟨v3, rfl, hr3, hk3⟩
  go_wp2
  exact bodyPost_ret (v := .tuple #[v3, .int .i64 0]) (by simp [results, Try.results17, go_sem]) rfl ⟨v3, rfl, ownsRow_le hr3 hk2.size, hk2.trans hk3⟩
end Go.Proofs.Ytjhakgnjodocpaa
