/- Labels as pairs of numbers: joins, meets, numbers. Nothing of the program. -/
import Derived.Test.YtknjekakncjbgabDoorMem
namespace Go.Proofs.YtknjekakncjbgabDoor
open Go.RowKit

/-- A label: its level, its categories. -/
structure Lb where
  lv : Int
  ct : Int
/-- Its numbers fit. -/
def Lb.ok (l : Lb) : Prop := (0 ≤ l.lv ∧ l.lv ≤ 255) ∧ 0 ≤ l.ct ∧ l.ct ≤ 65535

def orC (a b : Int) : Int := ((a.toNat ||| b.toNat : Nat) : Int)
def andC (a b : Int) : Int := ((a.toNat &&& b.toNat : Nat) : Int)
theorem orC_bd {a b : Int} (_ha : 0 ≤ a) (ha2 : a ≤ 65535) (_hb : 0 ≤ b) (hb2 : b ≤ 65535) : 0 ≤ orC a b ∧ orC a b ≤ 65535 := by
  have := Nat.or_lt_two_pow (x := a.toNat) (y := b.toNat) (n := 16) (by omega) (by omega)
  unfold orC
  omega
theorem andC_bd {a b : Int} (_ha : 0 ≤ a) (ha2 : a ≤ 65535) : 0 ≤ andC a b ∧ andC a b ≤ 65535 := by
  have := Nat.and_le_left (n := a.toNat) (m := b.toNat)
  unfold andC
  omega
theorem bits_or16 (a b : Int) (ha : 0 ≤ a) (ha2 : a ≤ 65535) (hb : 0 ≤ b) (hb2 : b ≤ 65535) : bits BinOp.or IntKind.u16 a b = orC a b := by
  have h := orC_bd ha ha2 hb hb2
  have e1 : (BitVec.ofInt 16 a ||| BitVec.ofInt 16 b).toNat = a.toNat ||| b.toNat := by
    rw [BitVec.toNat_or, BitVec.toNat_ofInt, BitVec.toNat_ofInt]
    congr 1 <;> omega
  show IntKind.u16.wrap ((BitVec.ofInt 16 a ||| BitVec.ofInt 16 b).toNat : Int) = _
  rw [e1]
  unfold orC at *
  generalize ((a.toNat ||| b.toNat : Nat) : Int) = y at *
  simp only [IntKind.wrap, IntKind.bits, IntKind.signed]
  simp
  omega
theorem bits_and16 (a b : Int) (ha : 0 ≤ a) (ha2 : a ≤ 65535) (hb : 0 ≤ b) (hb2 : b ≤ 65535) : bits BinOp.and IntKind.u16 a b = andC a b := by
  have h := andC_bd (b := b) ha ha2
  have e1 : (BitVec.ofInt 16 a &&& BitVec.ofInt 16 b).toNat = a.toNat &&& b.toNat := by
    rw [BitVec.toNat_and, BitVec.toNat_ofInt, BitVec.toNat_ofInt]
    congr 1 <;> omega
  show IntKind.u16.wrap ((BitVec.ofInt 16 a &&& BitVec.ofInt 16 b).toNat : Int) = _
  rw [e1]
  unfold andC at *
  generalize ((a.toNat &&& b.toNat : Nat) : Int) = y at *
  simp only [IntKind.wrap, IntKind.bits, IntKind.signed]
  simp
  omega

def jn (a b : Lb) : Lb := ⟨max a.lv b.lv, orC a.ct b.ct⟩
def mt (a b : Lb) : Lb := ⟨min a.lv b.lv, andC a.ct b.ct⟩
theorem jn_ok {a b : Lb} (ha : a.ok) (hb : b.ok) : (jn a b).ok := by
  obtain ⟨⟨h1, h2⟩, h3, h4⟩ := ha
  obtain ⟨⟨g1, g2⟩, g3, g4⟩ := hb
  have := orC_bd h3 h4 g3 g4
  exact ⟨⟨by simp [jn]; omega, by simp [jn]; omega⟩, this.1, this.2⟩
theorem mt_ok {a b : Lb} (ha : a.ok) (hb : b.ok) : (mt a b).ok := by
  obtain ⟨⟨h1, h2⟩, h3, h4⟩ := ha
  obtain ⟨⟨g1, g2⟩, g3, g4⟩ := hb
  have := andC_bd (b := b.ct) h3 h4
  exact ⟨⟨by simp [mt]; omega, by simp [mt]; omega⟩, this.1, this.2⟩

/-- The same numbers, two by two? -/
def eq4 (p q r s : Int) : Bool := p == r && q == s
def eqL (a b : Lb) : Bool := eq4 a.lv a.ct b.lv b.ct
theorem eq4_self (p q : Int) : eq4 p q p q = true := by simp [eq4]
theorem eqL_iff {a b : Lb} : eqL a b = true ↔ a = b := by
  cases a; cases b; simp [eqL, eq4]
theorem eqL_self (a : Lb) : eqL a a = true := eqL_iff.2 rfl
/-- Does a dominate b? -/
def dm (a b : Lb) : Bool := eqL (jn a b) a
theorem dm_iff {a b : Lb} : dm a b = true ↔ jn a b = a := eqL_iff

theorem orC_comm (a b : Int) : orC a b = orC b a := by unfold orC; rw [Nat.or_comm]
theorem andC_comm (a b : Int) : andC a b = andC b a := by unfold andC; rw [Nat.and_comm]
theorem orC_assoc (a b c : Int) : orC a (orC b c) = orC (orC a b) c := by unfold orC; simp [Nat.or_assoc]
theorem andC_assoc (a b c : Int) : andC a (andC b c) = andC (andC a b) c := by unfold andC; simp [Nat.and_assoc]
theorem orC_self {a : Int} (h : 0 ≤ a) : orC a a = a := by unfold orC; rw [Nat.or_self]; omega
theorem andC_self {a : Int} (h : 0 ≤ a) : andC a a = a := by unfold andC; rw [Nat.and_self]; omega
theorem and_orC (a b c : Int) : andC a (orC b c) = orC (andC a b) (andC a c) := by unfold orC andC; simp [Nat.and_or_distrib_left]
theorem nat_or_and (a b : Nat) : a ||| a &&& b = a := by
  apply Nat.eq_of_testBit_eq
  intro i
  simp only [Nat.testBit_or, Nat.testBit_and]
  cases a.testBit i <;> simp
theorem nat_and_or (a b : Nat) : a &&& (a ||| b) = a := by
  apply Nat.eq_of_testBit_eq
  intro i
  simp only [Nat.testBit_or, Nat.testBit_and]
  cases a.testBit i <;> simp
theorem orC_and {a : Int} (b : Int) (h : 0 ≤ a) : orC a (andC a b) = a := by unfold orC andC; rw [Int.toNat_natCast, nat_or_and]; omega
theorem andC_or {a : Int} (b : Int) (h : 0 ≤ a) : andC a (orC a b) = a := by unfold orC andC; rw [Int.toNat_natCast, nat_and_or]; omega

theorem lb_ext {a b : Lb} (h1 : a.lv = b.lv) (h2 : a.ct = b.ct) : a = b := by cases a; cases b; simp_all
theorem jn_comm (a b : Lb) : jn a b = jn b a := lb_ext (by simp only [jn]; omega) (orC_comm _ _)
theorem mt_comm (a b : Lb) : mt a b = mt b a := lb_ext (by simp only [mt]; omega) (andC_comm _ _)
theorem jn_assoc (a b c : Lb) : jn a (jn b c) = jn (jn a b) c := lb_ext (by simp only [jn]; omega) (orC_assoc _ _ _)
theorem mt_assoc (a b c : Lb) : mt a (mt b c) = mt (mt a b) c := lb_ext (by simp only [mt]; omega) (andC_assoc _ _ _)
theorem jn_self {a : Lb} (h : a.ok) : jn a a = a := lb_ext (by simp [jn]) (orC_self h.2.1)
theorem mt_self {a : Lb} (h : a.ok) : mt a a = a := lb_ext (by simp [mt]) (andC_self h.2.1)
theorem mt_jn (a b c : Lb) : mt a (jn b c) = jn (mt a b) (mt a c) := lb_ext (by simp [jn, mt]; omega) (and_orC _ _ _)
theorem jn_mt_abs {a : Lb} (b : Lb) (h : a.ok) : jn a (mt a b) = a := lb_ext (by simp [jn, mt]; omega) (orC_and _ h.2.1)
theorem mt_jn_abs {a : Lb} (b : Lb) (h : a.ok) : mt a (jn a b) = a := lb_ext (by simp [jn, mt]; omega) (andC_or _ h.2.1)

/- Dominating as an order. -/
theorem dm_self {a : Lb} (h : a.ok) : dm a a = true := dm_iff.2 (jn_self h)
theorem dm_trans {a b c : Lb} (h1 : dm a b = true) (h2 : dm b c = true) : dm a c = true := by
  rw [dm_iff] at *
  rw [← h1, ← jn_assoc, h2]
theorem dm_anti {a b : Lb} (h1 : dm a b = true) (h2 : dm b a = true) : a = b := by
  rw [dm_iff] at *
  rw [← h1, jn_comm, h2]
theorem dm_jn {a b : Lb} (c : Lb) (ha : a.ok) (hb : b.ok) : dm c (jn a b) = (dm c a && dm c b) := by
  rw [Bool.eq_iff_iff, Bool.and_eq_true, dm_iff, dm_iff, dm_iff]
  constructor
  · intro h
    constructor
    · rw [← h, ← jn_assoc, jn_comm (jn a b) a, jn_assoc a a b, jn_self ha]
    · rw [← h, ← jn_assoc, ← jn_assoc, jn_self hb]
  · rintro ⟨h1, h2⟩
    rw [jn_assoc, h1, h2]
theorem dm_mt_iff {a b : Lb} (ha : a.ok) (hb : b.ok) : dm a b = true ↔ mt a b = b := by
  rw [dm_iff]
  constructor
  · intro h
    rw [← h, mt_comm, jn_comm, mt_jn_abs _ hb]
  · intro h
    rw [← h, jn_mt_abs _ ha]
theorem mt_dm {a b c : Lb} (ha : a.ok) (hb : b.ok) (hc : c.ok) : dm (mt a b) c = (dm a c && dm b c) := by
  rw [Bool.eq_iff_iff, Bool.and_eq_true, dm_mt_iff (mt_ok ha hb) hc, dm_mt_iff ha hc, dm_mt_iff hb hc]
  constructor
  · intro h
    constructor
    · rw [← h, mt_assoc, mt_assoc, mt_self ha]
    · rw [← h, mt_comm a b, mt_assoc, mt_assoc, mt_self hb]
  · rintro ⟨h1, h2⟩
    rw [← mt_assoc, h2, h1]

/-- A label's number. -/
def nm (l : Lb) : Int := l.lv * 65536 + l.ct
theorem nm_inj {a b : Lb} (ha : a.ok) (hb : b.ok) (h : nm a = nm b) : a = b := by
  obtain ⟨⟨h1, h2⟩, h3, h4⟩ := ha
  obtain ⟨⟨g1, g2⟩, g3, g4⟩ := hb
  unfold nm at h
  exact lb_ext (by omega) (by omega)
theorem orC_ge {a b : Int} (ha : 0 ≤ a) : a ≤ orC a b := by
  unfold orC
  have := Nat.left_le_or (n := a.toNat) (m := b.toNat)
  omega
theorem dm_nm {a b : Lb} (_ha : a.ok) (hb : b.ok) (h : dm a b = true) : nm b ≤ nm a := by
  rw [dm_iff] at h
  have h2 : b.lv ≤ a.lv := by
    have := congrArg Lb.lv h
    simp [jn] at this
    omega
  have h3 : b.ct ≤ a.ct := by
    have := congrArg Lb.ct h
    simp only [jn] at this
    rw [← this, orC_comm]
    exact orC_ge hb.2.1
  unfold nm
  omega
end Go.Proofs.YtknjekakncjbgabDoor
