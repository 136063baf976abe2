/- Words for frames: what writers and readers keep; bytes as a text; octet's Bad. -/
import Derived.Test.YtjhakgnjodocpaaOctRead
namespace Go.Proofs.Ytjhakgnjodocpaa
open Go.RowKit

theorem bad_any (b : Nat) (xs : List Int) (bad : Bool) (w : World) (hr : Rd w b bad xs) :
    Calls Try.prog 31 #[.pointer (some ⟨b, 0, none⟩)] w fun e w' => e = .returned (.bool bad) ∧ w = w' := by
  obtain ⟨A, c, h1, h2, h3, h4⟩ := hr
  obtain ⟨c0, c1, f0, f1⟩ := cell_two h1
  clear h1 h2 h4
  go_enter Try.func31, Try.ntmps31
  go_wp2
  go_ret
  exact ⟨rfl, rfl⟩

theorem conv_any (A : Option Addr) (n c : Nat) (xs : List Int) (w : World) (B : Nat) (hl : Lies w B A n (vals .u8 xs)) : (convert 22 9 (.slice A n c)).run Try.prog w = .ok (.string (strOfNums xs)) w := by
  have hn : xs.length = n := by have := hl.1; rwa [vals_length] at this
  by_cases hp : 0 < n
  · obtain ⟨b, off, rfl, _, hc⟩ := hl.2 hp
    exact run_convert_bytes_arg w 22 5 Try.underlying22 Try.underlying5 b off n c xs hn (fun i hi => by rw [hc i hi, vals_getD _ _ _ (by omega)]) 9 Try.underlying9
  · obtain rfl : n = 0 := by omega
    have : xs = [] := List.eq_nil_of_length_eq_zero hn
    subst this
    rcases A with _ | ⟨b, off, spot⟩
    · exact run_convert_bytes_nil w 22 5 Try.underlying22 Try.underlying5 0 c 9 Try.underlying9
    · rw [run_convert_bytes_string w 22 9 5 _ 0 c Try.underlying22 Try.underlying5 Try.underlying9, run_bytesToString w _ 0 c [] (by simp [loadCells, loadCellsFrom])]
      rfl

theorem wr_new (w : World) : Wr (w.alloc (.cells #[.slice none 0 0] 53)) w.heap.size (.slice none 0 0) [] := ⟨Boxed.new w 53 _, World.ownsRow_nil _ _ _ _⟩
theorem Wr.only {w w' : World} {S : Nat → Prop} {b : Nat} {v : Value} {xs : List Int} (h : Wr w b v xs) (ho : Only S w w') (hS : ∀ k, OfWr b v k → ¬ S k) : Wr w' b v xs :=
  ⟨Boxed.only h.1 ho (hS b (.inl rfl)), ownsRow_only h.2 ho (fun g hg => hS g (.inr hg))⟩
theorem Wr.keep {w w' : World} {b : Nat} {v : Value} {xs : List Int} (h : Wr w b v xs) (hk : Keep w w') : Wr w' b v xs := h.only (Only.of_keep (fun _ => False) hk) (fun _ _ h => h)
theorem wr_keep {w wa wb : World} {b : Nat} {v : Value} {xs : List Int} (hk : Keep w wa) (hw : Wr wa b v xs) (hb : w.heap.size ≤ b) (ho : Only (OfWr b v) wa wb) : Keep w wb :=
  Only.keep hk ho (fun k h => by
    rcases h with rfl | h
    · exact hb
    · have := (hw.2.lt k h).1; omega)
theorem rd_keep {w wa wb : World} {b : Nat} (hk : Keep w wa) (hb : w.heap.size ≤ b) (ho : Only (fun k => k = b) wa wb) : Keep w wb := Only.keep hk ho (fun k h => by rw [h]; exact hb)
theorem Rd.keep {w w' : World} {b : Nat} {bad : Bool} {xs : List Int} (h : Rd w b bad xs) (hk : Keep w w') : Rd w' b bad xs := h.only (Only.of_keep (fun _ => False) hk) (fun _ _ h => h)
theorem Lies.keep {w w' : World} {B : Nat} {A : Option Addr} {n : Nat} {xs : List Value} (h : Lies w B A n xs) (hk : Keep w w') (hB : B ≤ w.heap.size) : Lies w' B A n xs := h.below (Below.mono hk hB)
theorem Lies.rd {w w' : World} {B b : Nat} {A : Option Addr} {n : Nat} {xs : List Value} (h : Lies w B A n xs) (ho : Only (fun k => k = b) w w') (hB : B ≤ b) (hB2 : B ≤ w.heap.size) : Lies w' B A n xs := h.below (ho.below hB2 (fun k e => by rw [e]; exact hB))
theorem row_keep {w w' : World} {base : Nat} {e : TypeId} {v : Value} {n : Nat} {xs : List Value} (h : w.ownsRow base e 1 v n xs) (hk : Keep w w') : w'.ownsRow base e 1 v n xs :=
  ownsRow_only h (Only.of_keep (fun _ => False) hk) (fun _ _ h => h)
theorem row_nil {w : World} {base : Nat} {e : TypeId} {A : Option Addr} {n' c n : Nat} {xs : List Value} (h : w.ownsRow base e 1 (.slice A n' c) n xs) : A = none → c = 0 := by
  intro h0
  subst h0
  rcases h.2 with ⟨e, _⟩ | ⟨g, cap, cur, e, _⟩
  · injection e
  · injection e with e1; cases e1
theorem row_cap {w : World} {base : Nat} {e : TypeId} {A : Option Addr} {n' c n : Nat} {xs : List Value} (h : w.ownsRow base e 1 (.slice A n' c) n xs) : n' ≤ c := by
  rcases h.2 with ⟨e, _⟩ | ⟨g, cap, cur, e, _, _, h1, _⟩
  · injection e with _ e2 e3; omega
  · injection e with _ e2 e3; omega

/-- Bytes in memory: a slice, with what its room is. -/
structure By (w : World) (B : Nat) (A : Option Addr) (n c : Nat) (xs : List Int) : Prop where
  lies : Lies w B A n (vals .u8 xs)
  cap : n ≤ c
  nil : A = none → c = 0
theorem By.len {w : World} {B : Nat} {A : Option Addr} {n c : Nat} {xs : List Int} (h : By w B A n c xs) : xs.length = n := by have := h.lies.1; rwa [vals_length] at this
theorem By.keep {w w' : World} {B : Nat} {A : Option Addr} {n c : Nat} {xs : List Int} (h : By w B A n c xs) (hk : Keep w w') (hB : B ≤ w.heap.size) : By w' B A n c xs := ⟨h.lies.keep hk hB, h.cap, h.nil⟩
theorem By.below {w w' : World} {B : Nat} {A : Option Addr} {n c : Nat} {xs : List Int} (h : By w B A n c xs) (hk : Below B w w') : By w' B A n c xs := ⟨h.lies.below hk, h.cap, h.nil⟩
theorem By.of_row {w : World} {base : Nat} {v : Value} {n : Nat} {xs : List Int} (h : w.ownsRow base 5 1 v n (vals .u8 xs)) : ∃ A c, v = .slice A n c ∧ By w w.heap.size A n c xs := by
  obtain ⟨A, c, rfl, hl⟩ := Lies.of_row h
  exact ⟨A, c, rfl, hl, row_cap h, row_nil h⟩

theorem same_is (A : Option Addr) (n c : Nat) (A2 : Option Addr) (n2 c2 : Nat) (xs ys : List Int) (w : World) (B B2 : Nat) (hl : Lies w B A n (vals .u8 xs)) (hl2 : Lies w B2 A2 n2 (vals .u8 ys)) (h : xs = ys) :
    Calls Try.prog 14 #[.slice A n c, .slice A2 n2 c2] w fun e w' => e = .returned (.bool true) ∧ w = w' := by
  subst h
  have c1 := conv_any A n c xs w B hl
  have c2 := conv_any A2 n2 c2 xs w B2 hl2
  clear hl hl2
  go_enter Try.func14, Try.ntmps14
  go_wp2
  go_ret
  exact ⟨rfl, rfl⟩
end Go.Proofs.Ytjhakgnjodocpaa
