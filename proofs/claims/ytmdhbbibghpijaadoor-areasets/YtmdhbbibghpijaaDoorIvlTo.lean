/- ivl's calls, by the set that comes out; a call in a drawn region whose answer lies somewhere. -/
import Derived.Test.YtmdhbbibghpijaaDoorIvlOps
namespace Go.Proofs.YtmdhbbibghpijaaDoor
open Go.RowKit

section
variable {P : Program} {Q : Exit → Act → World → Prop} {S : World → Prop}
/-- A call whose answer is told by R. -/
theorem seq_callx {o : Oper} {gs : Option (Option Tmp × Bool)} {rest : List (Option RowR)} {a : Act} {w : World} {x : Operand} {xs : Array Operand} {ts : Array TypeId} {f : FuncId} {args : Array Value} (R : Value → World → Prop) (hw : wantR gs a.tmps = true)
    (ho : o.op = .call { callee := .value x, args := xs, argTypes := ts }) (hx : a.eval x = .func (.func f) #[] #[]) (hf : ∀ (args : Array Value) (w : World), (callFunc f args).run P w = .ok (.enter f args) w) (hargs : xs.map a.eval = args)
    (hc : Calls P f args w fun e w' => ∃ v, e = .returned v ∧ S w' ∧ R v w') (h : ∀ v w', S w' → R v w' → SeqR P Q S rest (a.put o.dst v) w') :
    SeqR P Q S (some ⟨o, gs, true⟩ :: rest) a w := by
  refine .inl ⟨rfl, fun K hK => ?_⟩
  simp only [hw, if_true]
  unfold Oper.wp
  rw [run_callv ho hx hf hargs]
  refine Calls.mono hc fun e w' ⟨v, he, hS, hR⟩ => ?_
  subst he
  exact hK.out _ _ hS (h v w' hS hR)
end
/-- What comes out is the set r0, somewhere. -/
def To (w : World) (r0 : List Sp) (e : Ending) (w' : World) : Prop := ∃ v, e = .returned v ∧ Keep w w' ∧ ∃ A c, v = .slice A r0.length c ∧ Arg w' A r0.length c r0
theorem gives_to {w w' : World} {P : Int → Prop} {N : Nat} {e : Ending} {r0 : List Sp} (h : Gives w P N e w') (h0 : IsSet r0 P) : To w r0 e w' := by
  obtain ⟨hk, A, c, r, rfl, ha, -, hs⟩ := gives_arg h
  obtain rfl := hs.unique h0 (fun _ => Iff.rfl)
  exact ⟨_, rfl, hk, A, c, rfl, ha⟩
theorem make_to (A : Option Addr) (n c : Nat) (zs r0 : List Sp) (w : World) (h : Arg w A n c zs) (hn : n ≤ 40000) (h0 : IsSet r0 (mem zs)) :
    Calls Tryd.prog 29 #[.slice A n c] w (To w r0) := (make_any A n c zs w h.prs h.nil (by omega) h.ok).mono fun _ _ g => gives_to g h0
theorem union_to (A : Option Addr) (n c : Nat) (us : List Sp) (B : Option Addr) (n2 c2 : Nat) (vs r0 : List Sp) (w : World) (h : Arg w A n c us) (h2 : Arg w B n2 c2 vs) (hn : n ≤ 40000) (hn2 : n2 ≤ 40000) (h0 : IsSet r0 (fun k => mem us k ∨ mem vs k)) :
    Calls Tryd.prog 33 #[.slice A n c, .slice B n2 c2] w (To w r0) := (union_any A n c us B n2 c2 vs w h h2 (by omega) (by omega)).mono fun _ _ g => gives_to g h0
theorem meet_to (A : Option Addr) (n c : Nat) (us : List Sp) (B : Option Addr) (n2 c2 : Nat) (vs r0 : List Sp) (w : World) (h : Arg w A n c us) (h2 : Arg w B n2 c2 vs) (hn : n ≤ 40000) (hn2 : n2 ≤ 40000) (h0 : IsSet r0 (fun k => mem us k ∧ mem vs k)) :
    Calls Tryd.prog 34 #[.slice A n c, .slice B n2 c2] w (To w r0) := (meet_any A n c us B n2 c2 vs w h h2 (by omega) (by omega)).mono fun _ _ g => gives_to g h0
theorem minus_to (A : Option Addr) (n c : Nat) (us : List Sp) (B : Option Addr) (n2 c2 : Nat) (vs r0 : List Sp) (w : World) (h : Arg w A n c us) (h2 : Arg w B n2 c2 vs) (hn : n ≤ 40000) (hn2 : n2 ≤ 40000) (h0 : IsSet r0 (fun k => mem us k ∧ ¬ mem vs k)) :
    Calls Tryd.prog 35 #[.slice A n c, .slice B n2 c2] w (To w r0) := (minus_any A n c us B n2 c2 vs w h h2 hn hn2).mono fun _ _ g => gives_to g h0
theorem not_to (A : Option Addr) (n c : Nat) (us r0 : List Sp) (w : World) (h : Arg w A n c us) (hn : n ≤ 40000) (h0 : IsSet r0 (fun k => isKey k ∧ ¬ mem us k)) :
    Calls Tryd.prog 61 #[.slice A n c] w (To w r0) := (not_any A n c us w h (by omega)).mono fun _ _ g => gives_to g h0
theorem has_is (A : Option Addr) (n c : Nat) (zs : List Sp) (k : Int) (v : Bool) (w : World) (h : Arg w A n c zs) (hn : n ≤ 40000) (hv : hasB zs k = v) :
    Calls Tryd.prog 28 #[.slice A n c, .int .u32 k] w fun e w' => e = .returned (.bool v) ∧ Keep w w' := hv ▸ has_any A n c zs k w h.prs (by omega)
theorem right_is (A : Option Addr) (n c : Nat) (zs : List Sp) (v : Bool) (w : World) (h : Arg w A n c zs) (hn : n ≤ 40000) (hv : v = true ↔ Rt zs) :
    Calls Tryd.prog 75 #[.slice A n c] w fun e w' => e = .returned (.bool v) ∧ Keep w w' := right_any A n c zs v w h.prs h.ok (by omega) hv
theorem arg_nil (w : World) : Arg w none 0 0 [] := ⟨Prs.nil _ _ _, Nat.le_refl _, fun _ => rfl, by simp⟩
theorem isSet_self {r : List Sp} (h : Rt r) (hok : ∀ s ∈ r, s.ok) : IsSet r (mem r) := ⟨h, fun _ => Iff.rfl, hok⟩

/-! The example's sets. -/
theorem a_set : IsSet [⟨1, 5⟩] (mem [⟨4, 5⟩, ⟨1, 3⟩, ⟨9, 8⟩]) := ⟨by simp [Rt], fun k => by simp [mem, inS]; omega, by simp [Sp.ok]⟩
theorem u_set : IsSet [⟨1, 7⟩] (fun k => mem [⟨1, 5⟩] k ∨ mem [⟨3, 7⟩] k) := ⟨by simp [Rt], fun k => by simp [mem, inS]; omega, by simp [Sp.ok]⟩
theorem m_set : IsSet [⟨3, 5⟩] (fun k => mem [⟨1, 5⟩] k ∧ mem [⟨3, 7⟩] k) := ⟨by simp [Rt], fun k => by simp [mem, inS]; omega, by simp [Sp.ok]⟩
theorem d_set : IsSet [⟨1, 2⟩] (fun k => mem [⟨1, 5⟩] k ∧ ¬ mem [⟨3, 7⟩] k) := ⟨by simp [Rt], fun k => by simp [mem, inS]; omega, by simp [Sp.ok]⟩
theorem n_set : IsSet [⟨0, 0⟩, ⟨6, 4294967295⟩] (fun k => isKey k ∧ ¬ mem [⟨1, 5⟩] k) := ⟨by simp [Rt], fun k => by simp [mem, inS, isKey]; omega, by simp [Sp.ok]⟩
theorem all_set : IsSet [⟨0, 4294967295⟩] (fun k => isKey k ∧ ¬ mem [] k) := ⟨by simp [Rt], fun k => by simp [mem, inS, isKey], by simp [Sp.ok]⟩
end Go.Proofs.YtmdhbbibghpijaaDoor
