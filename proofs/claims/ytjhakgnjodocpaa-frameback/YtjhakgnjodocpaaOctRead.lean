/- octet's Reader: what each call reads. -/
import Derived.Test.YtjhakgnjodocpaaOctWrite
namespace Go.Proofs.Ytjhakgnjodocpaa
open Go.RowKit

/-- Numbers that are bytes. -/
def Byt (xs : List Int) : Prop := ∀ x ∈ xs, 0 ≤ x ∧ x ≤ 255
/-- A reader in block b: the bytes xs are left; was more asked for? -/
def Rd (w : World) (b : Nat) (bad : Bool) (xs : List Int) : Prop :=
  ∃ A c, w.heap[b]? = some (.cells #[.slice A xs.length c, .bool bad] 66 (0, 0)) ∧ Lies w b A xs.length (vals .u8 xs) ∧ xs.length ≤ c ∧ (A = none → c = 0)
theorem Rd.lt {w : World} {b : Nat} {bad : Bool} {xs : List Int} (h : Rd w b bad xs) : b < w.heap.size := by
  obtain ⟨A, c, h, _⟩ := h
  exact (Array.getElem?_eq_some_iff.1 h).1
theorem Rd.only {w w' : World} {S : Nat → Prop} {b : Nat} {bad : Bool} {xs : List Int} (h : Rd w b bad xs) (ho : Only S w w') (hS : ∀ k, k ≤ b → ¬ S k) : Rd w' b bad xs := by
  have hlt := h.lt
  obtain ⟨A, c, h1, h2, h3⟩ := h
  exact ⟨A, c, (ho.block b hlt (hS b (Nat.le_refl _))).trans h1, h2.below (⟨ho.os, ho.tape, ho.output, ho.size, fun k hk => ho.block k (by omega) (hS k (by omega))⟩), h3⟩

theorem cell_two {w : World} {b : Nat} {x y : Value} {t : TypeId} (h : w.heap[b]? = some (.cells #[x, y] t (0, 0))) :
    w.cell? ⟨b, 0, none⟩ = some x ∧ w.cell? ⟨b, 1, none⟩ = some y ∧ w.frozen? ⟨b, 0, none⟩ = false ∧ w.frozen? ⟨b, 1, none⟩ = false := by
  simp [World.cell?, World.frozen?, h]
theorem set_two0 {w : World} {b : Nat} {x y : Value} {t : TypeId} (v : Value) (h : w.heap[b]? = some (.cells #[x, y] t (0, 0))) : (w.setCell ⟨b, 0, none⟩ v).heap[b]? = some (.cells #[v, y] t (0, 0)) := by
  simp [World.setCell, Array.getElem?_modify, h]
theorem set_two1 {w : World} {b : Nat} {x y : Value} {t : TypeId} (v : Value) (h : w.heap[b]? = some (.cells #[x, y] t (0, 0))) : (w.setCell ⟨b, 1, none⟩ v).heap[b]? = some (.cells #[x, v] t (0, 0)) := by
  simp [World.setCell, Array.getElem?_modify, h]

set_option maxHeartbeats 400000 in
theorem open_any (A : Option Addr) (n c : Nat) (zs : List Int) (w : World) (B : Nat) (hn : n ≤ 140737488355328) (hB : B ≤ w.heap.size) (hl : Lies w B A n (vals .u8 zs)) :
    Calls Try.prog 29 #[.slice A n c] w fun e w' => ∃ b, e = .returned (.pointer (some ⟨b, 0, none⟩)) ∧ w.heap.size ≤ b ∧ Rd w' b false zs ∧ Keep w w' := by
  have HC := Lib.hid (clone_any A n c zs w B hn hB hl)
  have hzl : zs.length = n := by have := hl.1; rwa [vals_length] at this
  have HZ := Lib.hid hzl
  clear hl hzl
  go_enter Try.func29, Try.ntmps29
  go_wp2_with (go_at_call 21; refine HC.out.mono ?_; rintro e w1 ⟨v', rfl, h1, h2⟩; obtain ⟨A1, c1, rfl, hl1⟩ := Lies.of_row h1)
  go_ret
  refine ⟨w1.heap.size, rfl, h2.size, ?_, h2.alloc _⟩
  rw [← HZ.out] at hl1 h1 ⊢
  refine ⟨A1, c1, World.alloc_heap_new _ _, hl1.below ((Below.refl _ _).alloc (Nat.le_refl _) _), ?_⟩
  rcases h1.2 with ⟨e, h0⟩ | ⟨g, cap, cur, e, _, _, hcap, _⟩
  · injection e with e1 e2 e3
    subst e1 e3
    exact ⟨by omega, fun _ => rfl⟩
  · injection e with e1 e2 e3
    subst e1 e3
    exact ⟨hcap, fun h => by cases h⟩

def okR (bad : Bool) (xs : List Int) (k : Nat) : Bool := !bad && decide (k ≤ xs.length)
def pieceR (bad : Bool) (xs : List Int) (k : Nat) : List Int := if okR bad xs k then xs.take k else []
def restR (bad : Bool) (xs : List Int) (k : Nat) : List Int := if okR bad xs k then xs.drop k else xs

set_option maxRecDepth 100000 in
set_option maxHeartbeats 1000000 in
theorem next_bad (k : Int) (b : Nat) (xs : List Int) (bad : Bool) (w : World) (hr : Rd w b bad xs) (h : bad = true ∨ (xs.length : Int) < k) :
    Calls Try.prog 35 #[.pointer (some ⟨b, 0, none⟩), .int .i64 k] w fun e w' => e = .returned (.slice none 0 0) ∧ Rd w' b true xs ∧ Only (fun k => k = b) w w' := by
  obtain ⟨A, c, h1, h2, h3⟩ := hr
  obtain ⟨c0, c1, f0, f1⟩ := cell_two h1
  rcases bad with _ | _
  · have hk : (xs.length : Int) < k := by rcases h with h | h; cases h; exact h
    clear h
    go_enter Try.func35, Try.ntmps35
    go_wp2
    go_ret
    exact ⟨rfl, ⟨A, c, set_two1 _ h1, h2.below ((Below.refl _ _).setCell (p := ⟨b, 1, none⟩) (Nat.le_refl _) _), h3⟩, (Only.refl _ _).setCell _ _ rfl⟩
  · go_enter Try.func35, Try.ntmps35
    go_wp2
    go_ret
    exact ⟨rfl, ⟨A, c, set_two1 _ h1, h2.below ((Below.refl _ _).setCell (p := ⟨b, 1, none⟩) (Nat.le_refl _) _), h3⟩, (Only.refl _ _).setCell _ _ rfl⟩

def NextOk (w : World) (b k : Nat) (xs : List Int) (e : Ending) (w' : World) : Prop :=
  ∃ A, e = .returned (.slice A k k) ∧ Lies w' b A k (vals .u8 (xs.take k)) ∧ (A = none → k = 0) ∧ Rd w' b false (xs.drop k) ∧ Only (fun k => k = b) w w'

theorem next_fin {w : World} {b g off c k : Nat} {xs : List Int} {A2 : Option Addr} (h1 : w.heap[b]? = some (.cells #[.slice (some ⟨g, off, none⟩) xs.length c, .bool false] 66 (0, 0)))
    (h2 : Lies w b (some ⟨g, off, none⟩) xs.length (vals .u8 xs)) (h3 : xs.length ≤ c) (hk : k ≤ xs.length) (hA : A2 = some ⟨g, off + k, none⟩ ∨ (k = c ∧ A2 = some ⟨g, off, none⟩)) :
    NextOk w b k xs (.returned (.slice (some ⟨g, off, none⟩) k k)) (w.setCell ⟨b, 0, none⟩ (.slice A2 (xs.length - k) (c - k))) := by
  have hbel : Below b w (w.setCell ⟨b, 0, none⟩ (.slice A2 (xs.length - k) (c - k))) := (Below.refl _ _).setCell (p := ⟨b, 0, none⟩) (Nat.le_refl _) _
  refine ⟨_, rfl, ?_, (fun h => by cases h), ⟨A2, c - k, ?_, ?_, by simp; omega, ?_⟩, (Only.refl _ _).setCell _ _ rfl⟩
  · have := (h2.part 0 k (by omega)).below hbel
    rw [vals_part] at this
    simpa using this
  · rw [List.length_drop]; exact set_two0 _ h1
  · rw [List.length_drop]
    rcases hA with rfl | ⟨rfl, rfl⟩
    · have := (h2.part k (xs.length - k) (by omega)).below hbel
      rw [vals_part, List.take_of_length_le (by simp)] at this
      exact this
    · have e0 : xs.length - k = 0 := by omega
      have e1 : xs.drop k = [] := List.drop_eq_nil_of_le (by omega)
      rw [e0, e1]
      exact Lies.nil _ _ _
  · rcases hA with rfl | ⟨_, rfl⟩ <;> (intro h; cases h)

theorem next_fin0 {w : World} {b c : Nat} {A A1 A2 : Option Addr} (h1 : w.heap[b]? = some (.cells #[.slice A 0 c, .bool false] 66 (0, 0))) (_h5 : A1 = none → (0 : Nat) = 0) (h6 : A2 = none → c = 0) :
    NextOk w b 0 [] (.returned (.slice A1 0 0)) (w.setCell ⟨b, 0, none⟩ (.slice A2 0 c)) :=
  ⟨A1, rfl, Lies.nil _ _ _, fun _ => rfl, ⟨A2, c, set_two0 _ h1, Lies.nil _ _ _, Nat.zero_le _, h6⟩, (Only.refl _ _).setCell _ _ rfl⟩

set_option maxRecDepth 100000 in
set_option maxHeartbeats 1000000 in
theorem next_ok (k : Nat) (b : Nat) (xs : List Int) (w : World) (hr : Rd w b false xs) (hx : xs.length ≤ 1099511627776) (hk : k ≤ xs.length) :
    Calls Try.prog 35 #[.pointer (some ⟨b, 0, none⟩), .int .i64 k] w (NextOk w b k xs) := by
  obtain ⟨A, c, h1, h2, h3, h4⟩ := hr
  obtain ⟨c0, c1, f0, f1⟩ := cell_two h1
  have hk' : (k : Int) ≤ (xs.length : Int) := by omega
  by_cases hpos : 0 < xs.length
  · obtain ⟨g, off, rfl, hg, -⟩ := h2.2 hpos
    have HF := Lib.hid (fun A2 => next_fin (A2 := A2) h1 h2 h3 hk)
    clear h1 h2 h4
    by_cases hc : c = k
    · subst hc
      go_enter Try.func35, Try.ntmps35
      go_wp2
      go_ret
      have hf := HF.out (some ⟨g, off, none⟩) (.inr (by simp))
      rw [show xs.length - c = 0 from by omega, Nat.sub_self] at hf
      exact hf
    · go_enter Try.func35, Try.ntmps35
      go_wp2
      go_ret
      exact HF.out _ (.inl rfl)
  · obtain rfl : k = 0 := by omega
    have hxs : xs = [] := List.eq_nil_of_length_eq_zero (by omega)
    subst hxs
    have HF := Lib.hid (fun A1 A2 h5 h6 => next_fin0 (A1 := A1) (A2 := A2) h1 h5 h6)
    clear h1 h2
    rcases A with _ | a
    · obtain rfl := h4 rfl
      go_enter Try.func35, Try.ntmps35
      go_wp2
      go_ret
      exact HF.out _ _ (by simp) (by simp)
    · by_cases hc : c = 0
      · subst hc
        go_enter Try.func35, Try.ntmps35
        go_wp2
        go_ret
        exact HF.out _ _ (by simp) (by simp)
      · go_enter Try.func35, Try.ntmps35
        go_wp2
        go_ret
        exact HF.out _ _ (by simp) (by simp)

/-- Bytes as a number, the highest one first. -/
def getB (xs : List Int) : Int := xs.foldl (fun a x => a * 256 + x) 0
theorem getB_snoc (xs : List Int) (x : Int) : getB (xs ++ [x]) = getB xs * 256 + x := by simp [getB]
def pow256 (k : Nat) : Int := ((256 ^ k : Nat) : Int)
theorem pow256_succ (k : Nat) : pow256 (k + 1) = pow256 k * 256 := by unfold pow256; rw [Nat.pow_succ]; omega
theorem pow256_pos (k : Nat) : 0 < pow256 k := by unfold pow256; have := Nat.pow_pos (n := k) (show 0 < 256 by decide); omega
theorem pow256_le {j k : Nat} (h : j ≤ k) : pow256 j ≤ pow256 k := by unfold pow256; have := Nat.pow_le_pow_right (n := 256) (by decide) h; omega
theorem getB_bd : ∀ (k : Nat) (xs : List Int), Byt xs → k ≤ xs.length → 0 ≤ getB (xs.take k) ∧ getB (xs.take k) < pow256 k
  | 0, xs, _, _ => by simp [getB, pow256]
  | k + 1, xs, hb, hk => by
    have ih := getB_bd k xs hb (by omega)
    rw [List.take_succ_eq_append_getElem (by omega), getB_snoc, pow256_succ]
    have := hb xs[k] (List.getElem_mem _)
    omega
theorem Byt.take {xs : List Int} (h : Byt xs) (k : Nat) : Byt (xs.take k) := fun x hx => h x (List.mem_of_mem_take hx)
theorem Byt.drop {xs : List Int} (h : Byt xs) (k : Nat) : Byt (xs.drop k) := fun x hx => h x (List.mem_of_mem_drop hx)

theorem or_byte (a x : Int) (ha : 0 ≤ a) (ha2 : a < 72057594037927936) (hx : 0 ≤ x) (hx2 : x ≤ 255) : bits BinOp.or IntKind.u64 (a * 256) x = a * 256 + x := by
  rw [u64_or _ _ (by omega) (by omega) (by omega) (by omega), nat_join 8 _ _ (by omega) (by omega)]
  omega

def GetBad (w : World) (b : Nat) (xs : List Int) (v : Value) (e : Ending) (w' : World) : Prop := e = .returned v ∧ Rd w' b true xs ∧ Only (fun k => k = b) w w'
set_option maxHeartbeats 1000000 in
theorem get_bad (size : Int) (b : Nat) (xs : List Int) (bad : Bool) (w : World) (hr : Rd w b bad xs) (h : bad = true ∨ (xs.length : Int) < fsz size) :
    Calls Try.prog 30 #[.pointer (some ⟨b, 0, none⟩), .int .i64 size] w (GetBad w b xs (.int .u64 0)) := by
  have HN := Lib.hid (next_bad (fsz size) b xs bad w hr h)
  clear hr h
  go_enter Try.func30, Try.ntmps30
  go_wp2_with (first
    | (go_at_call 33; refine (fsize_any _ _).mono ?_; rintro e w' ⟨rfl, rfl⟩)
    | (go_at_call 35; refine HN.out.mono ?_; rintro e w1 ⟨rfl, h1, h2⟩))
  go_loop [5, 13] (fun t i => t = .int .u64 0 ∧ i = .int .i64 0) (fun _ _ => 0)
  case atStart => exact ⟨rfl, rfl⟩
  case round =>
    obtain ⟨rfl, rfl⟩ := hrel
    go_wp2
    go_ret
    exact ⟨rfl, h1, h2⟩

def GetOk (w : World) (b k : Nat) (xs : List Int) (v : Value) (e : Ending) (w' : World) : Prop := e = .returned v ∧ Rd w' b false (xs.drop k) ∧ Only (fun k => k = b) w w'
set_option maxRecDepth 100000 in
set_option maxHeartbeats 1000000 in
theorem get_ok (size : Int) (K : Nat) (b : Nat) (xs : List Int) (w : World) (hr : Rd w b false xs) (hx : xs.length ≤ 1099511627776) (hby : Byt xs) (hK : fsz size = (K : Int)) (h : K ≤ xs.length) :
    Calls Try.prog 30 #[.pointer (some ⟨b, 0, none⟩), .int .i64 size] w (GetOk w b K xs (.int .u64 (getB (xs.take K)))) := by
  have hK8 : K ≤ 8 := by have := fsz_bd size; omega
  have HN := Lib.hid (next_ok K b xs w hr hx h)
  clear hr
  go_enter Try.func30, Try.ntmps30
  go_wp2_with (first
    | (go_at_call 33; refine (fsize_any _ _).mono ?_; rintro e w' ⟨rfl, rfl⟩)
    | (go_at_call 35; refine HN.out.mono ?_; rintro e w1 ⟨A, rfl, hl, -, h1, h2⟩))
  go_loop [5, 13] (fun t i => ∃ j : Nat, j ≤ K ∧ i = .int .i64 j ∧ t = .int .u64 (getB (xs.take j))) (fun _ i => K - (intOf i).toNat)
  case atStart => exact ⟨0, Nat.zero_le _, rfl, rfl⟩
  case round =>
    obtain ⟨j, hj, rfl, rfl⟩ := hrel
    by_cases hlt : j < K
    · obtain ⟨g, off, rfl, hg, hc⟩ := hl.2 (by omega)
      have hjl : j < xs.length := by omega
      have hcell : w1.cell? ⟨g, off + j, none⟩ = some (.int .u8 xs[j]) := by
        rw [hc j hlt, vals_getD _ _ _ (by simp; omega)]
        simp [List.getD_eq_getElem?_getD, hlt, hjl]
      have HS := Lib.hid (show getB (xs.take (j + 1)) = getB (xs.take j) * 256 + xs[j] by rw [List.take_succ_eq_append_getElem hjl, getB_snoc])
      obtain ⟨g0, g1⟩ := getB_bd j xs hby (by omega)
      obtain ⟨x0, x1⟩ := hby xs[j] (List.getElem_mem _)
      have hp := pow256_le (show j ≤ 7 by omega)
      rw [show pow256 7 = 72057594037927936 from rfl] at hp
      have g2 : getB (xs.take j) < 72057594037927936 := by omega
      have key := or_byte _ _ g0 g2 x0 x1
      clear hp g1 hc hl
      generalize getB (xs.take j) = a at *
      generalize xs[j] = x at *
      go_wp2
      go_round
      case rel => exact ⟨j + 1, by omega, by go_num, by rw [HS.out]⟩
      case measure => simp [intOf]; omega
    · obtain rfl : j = K := by omega
      go_wp2
      go_ret
      exact ⟨rfl, h1, h2⟩
end Go.Proofs.Ytjhakgnjodocpaa
