/- ivl's calls, by which keys are in. -/
import Derived.Test.YtmdhbbibghpijaaDoorIvlTo
namespace Go.Proofs.YtmdhbbibghpijaaDoor
open Go.RowKit

def keyB (k : Int) : Bool := decide (0 ≤ k) && decide (k ≤ 4294967295)
/-- Spans of just the keys of f. -/
def Bg (w : World) (A : Option Addr) (n c : Nat) (f : Int → Bool) : Prop := ∃ zs, Arg w A n c zs ∧ ∀ k, hasB zs k = f k
/-- The set of just the keys of f. -/
def St (w : World) (A : Option Addr) (n c : Nat) (f : Int → Bool) : Prop := ∃ zs, Arg w A n c zs ∧ Rt zs ∧ ∀ k, hasB zs k = f k
theorem St.bg {w : World} {A : Option Addr} {n c : Nat} {f : Int → Bool} (h : St w A n c f) : Bg w A n c f := let ⟨zs, h1, _, h3⟩ := h; ⟨zs, h1, h3⟩
theorem Bg.keep {w w' : World} {A : Option Addr} {n c : Nat} {f : Int → Bool} (h : Bg w A n c f) (hk : Keep w w') : Bg w' A n c f := let ⟨zs, h1, h3⟩ := h; ⟨zs, h1.keep hk, h3⟩
theorem St.keep {w w' : World} {A : Option Addr} {n c : Nat} {f : Int → Bool} (h : St w A n c f) (hk : Keep w w') : St w' A n c f := let ⟨zs, h1, h2, h3⟩ := h; ⟨zs, h1.keep hk, h2, h3⟩
theorem Bg.key {w : World} {A : Option Addr} {n c : Nat} {f : Int → Bool} (h : Bg w A n c f) (k : Int) (hf : f k = true) : keyB k = true := by
  obtain ⟨zs, h1, h3⟩ := h
  have := mem_key h1.ok (hasB_iff.1 ((h3 k).trans hf))
  unfold isKey at this
  simp [keyB]
  omega
theorem Bg.of {w : World} {A : Option Addr} {n c : Nat} {zs : List Sp} (h : Arg w A n c zs) : Bg w A n c (hasB zs) := ⟨zs, h, fun _ => rfl⟩
/-- A set comes out, of at most N spans. -/
def Out (w : World) (f : Int → Bool) (N : Nat) (e : Ending) (w' : World) : Prop := ∃ A n c, e = .returned (.slice A n c) ∧ Keep w w' ∧ St w' A n c f ∧ n ≤ N
theorem gives_out {w w' : World} {P : Int → Prop} {N : Nat} {e : Ending} {f : Int → Bool} (h : Gives w P N e w') (hf : ∀ k, P k ↔ f k = true) : Out w f N e w' := by
  obtain ⟨hk, A, c, r, rfl, ha, hn, hs⟩ := gives_arg h
  refine ⟨A, r.length, c, rfl, hk, ⟨r, ha, hs.rt, fun k => ?_⟩, hn⟩
  have h1 : hasB r k = true ↔ f k = true := by rw [hasB_iff, hs.mem k]; exact hf k
  cases h2 : hasB r k <;> cases h3 : f k <;> simp_all
theorem bg_mem {zs : List Sp} {f : Int → Bool} (h : ∀ k, hasB zs k = f k) (k : Int) : mem zs k ↔ f k = true := by rw [← hasB_iff, h k]
theorem union_o {A : Option Addr} {n c : Nat} {f : Int → Bool} {B : Option Addr} {n2 c2 : Nat} {g : Int → Bool} {w : World} (h : Bg w A n c f) (h2 : Bg w B n2 c2 g) (hn : n ≤ 40000) (hn2 : n2 ≤ 40000) :
    Calls Tryd.prog 33 #[.slice A n c, .slice B n2 c2] w (Out w (fun k => f k || g k) (n + n2)) := by
  obtain ⟨zs, h1, h3⟩ := h
  obtain ⟨ys, g1, g3⟩ := h2
  exact (union_any A n c zs B n2 c2 ys w h1 g1 (by omega) (by omega)).mono fun _ _ g => gives_out g (fun k => by rw [bg_mem h3, bg_mem g3]; simp)
theorem meet_o {A : Option Addr} {n c : Nat} {f : Int → Bool} {B : Option Addr} {n2 c2 : Nat} {g : Int → Bool} {w : World} (h : Bg w A n c f) (h2 : Bg w B n2 c2 g) (hn : n ≤ 40000) (hn2 : n2 ≤ 40000) :
    Calls Tryd.prog 34 #[.slice A n c, .slice B n2 c2] w (Out w (fun k => f k && g k) (n + n2)) := by
  obtain ⟨zs, h1, h3⟩ := h
  obtain ⟨ys, g1, g3⟩ := h2
  exact (meet_any A n c zs B n2 c2 ys w h1 g1 (by omega) (by omega)).mono fun _ _ g => gives_out g (fun k => by rw [bg_mem h3, bg_mem g3]; simp)
theorem minus_o {A : Option Addr} {n c : Nat} {f : Int → Bool} {B : Option Addr} {n2 c2 : Nat} {g : Int → Bool} {w : World} (h : Bg w A n c f) (h2 : Bg w B n2 c2 g) (hn : n ≤ 40000) (hn2 : n2 ≤ 40000) :
    Calls Tryd.prog 35 #[.slice A n c, .slice B n2 c2] w (Out w (fun k => f k && !g k) (n + n2 + 1)) := by
  obtain ⟨zs, h1, h3⟩ := h
  obtain ⟨ys, g1, g3⟩ := h2
  exact (minus_any A n c zs B n2 c2 ys w h1 g1 hn hn2).mono fun _ _ g => gives_out g (fun k => by rw [bg_mem h3, bg_mem g3]; simp)
theorem not_o {A : Option Addr} {n c : Nat} {f : Int → Bool} {w : World} (h : Bg w A n c f) (hn : n ≤ 40000) :
    Calls Tryd.prog 61 #[.slice A n c] w (Out w (fun k => keyB k && !f k) (n + 1)) := by
  obtain ⟨zs, h1, h3⟩ := h
  exact (not_any A n c zs w h1 (by omega)).mono fun _ _ g => gives_out g (fun k => by rw [bg_mem h3]; simp [isKey, keyB])
/-- How many keys. -/
def cz (f : Int → Bool) : Int := (cnt 4294967296 (fun i => f i) : Nat)
theorem has_o {A : Option Addr} {n c : Nat} {f : Int → Bool} {w : World} (k : Int) (h : Bg w A n c f) (hn : n ≤ 40000) :
    Calls Tryd.prog 28 #[.slice A n c, .int .u32 k] w fun e w' => e = .returned (.bool (f k)) ∧ Keep w w' := by
  obtain ⟨zs, h1, h3⟩ := h
  exact has_is A n c zs k (f k) w h1 hn (h3 k)
theorem right_o {A : Option Addr} {n c : Nat} {f : Int → Bool} {w : World} (h : St w A n c f) (hn : n ≤ 40000) :
    Calls Tryd.prog 75 #[.slice A n c] w fun e w' => e = .returned (.bool true) ∧ Keep w w' := by
  obtain ⟨zs, h1, h2, h3⟩ := h
  exact right_is A n c zs true w h1 hn (by simp [h2])
theorem same_o {A : Option Addr} {n c : Nat} {f : Int → Bool} {B : Option Addr} {n2 c2 : Nat} {g : Int → Bool} {w : World} (v : Bool) (h : Bg w A n c f) (h2 : Bg w B n2 c2 g) (hn : n ≤ 40000) (hn2 : n2 ≤ 40000) (hv : v = true ↔ ∀ k, f k = g k) :
    Calls Tryd.prog 46 #[.slice A n c, .slice B n2 c2] w fun e w' => e = .returned (.bool v) ∧ Keep w w' := by
  obtain ⟨zs, h1, h3⟩ := h
  obtain ⟨ys, g1, g3⟩ := h2
  refine same_any A n c zs B n2 c2 ys v w h1 g1 (by omega) (by omega) (hv.trans ⟨fun e k => by rw [bg_mem h3, bg_mem g3, e k], fun e k => ?_⟩)
  have := e k
  rw [bg_mem h3, bg_mem g3] at this
  cases h2 : f k <;> cases h4 : g k <;> simp_all
theorem within_o {A : Option Addr} {n c : Nat} {f : Int → Bool} {B : Option Addr} {n2 c2 : Nat} {g : Int → Bool} {w : World} (v : Bool) (h : Bg w A n c f) (h2 : Bg w B n2 c2 g) (hn : n ≤ 40000) (hn2 : n2 ≤ 40000) (hv : v = true ↔ ∀ k, f k = true → g k = true) :
    Calls Tryd.prog 45 #[.slice A n c, .slice B n2 c2] w fun e w' => e = .returned (.bool v) ∧ Keep w w' := by
  obtain ⟨zs, h1, h3⟩ := h
  obtain ⟨ys, g1, g3⟩ := h2
  exact within_any A n c zs B n2 c2 ys v w h1 g1 hn hn2 (hv.trans ⟨fun e k => by rw [bg_mem h3, bg_mem g3]; exact e k, fun e k => by have := e k; rw [bg_mem h3, bg_mem g3] at this; exact this⟩)
theorem cz_bd (f : Int → Bool) : 0 ≤ cz f ∧ cz f ≤ 4294967296 := by
  unfold cz
  have := cnt_le (fun i => f i) 4294967296
  omega
theorem cz_add (f g : Int → Bool) : cz (fun k => f k || g k) + cz (fun k => f k && g k) = cz f + cz g := by
  have := cnt_add (fun i : Nat => f i) (fun i : Nat => g i) 4294967296
  unfold cz
  dsimp only
  omega
theorem cz_congr {f g : Int → Bool} (h : ∀ k, keyB k = true → f k = g k) : cz f = cz g := by
  have : cnt 4294967296 (fun i => f i) = cnt 4294967296 (fun i => g i) := cnt_congr fun i hi => h i (by simp [keyB]; omega)
  unfold cz
  rw [this]
theorem cz_not (f : Int → Bool) : cz (fun k => keyB k && !f k) + cz f = 4294967296 := by
  have e : cz (fun k => keyB k && !f k) = cz (fun k => !f k) := cz_congr fun k hk => by rw [hk]; simp
  rw [e]
  have := cnt_not (fun i : Nat => f i) 4294967296
  unfold cz
  dsimp only
  omega
theorem cz_none {f : Int → Bool} (h : ∀ k, f k = false) : cz f = 0 := by
  unfold cz
  rw [cnt_zero fun i _ => h i]
  rfl
theorem cz_minus (f g : Int → Bool) : cz (fun k => f k && !g k) + cz (fun k => f k && g k) = cz f := by
  have h := cz_add (fun k => f k && !g k) (fun k => f k && g k)
  have e1 : cz (fun k => (f k && !g k) || (f k && g k)) = cz f := cz_congr fun k _ => by cases f k <;> cases g k <;> rfl
  have e2 : cz (fun k => (f k && !g k) && (f k && g k)) = 0 := cz_none fun k => by cases f k <;> cases g k <;> rfl
  omega
end Go.Proofs.YtmdhbbibghpijaaDoor
