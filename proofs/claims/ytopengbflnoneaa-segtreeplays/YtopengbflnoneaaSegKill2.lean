/- segtree.kill: for every tree and span; settle, above two trees. -/
import Derived.Test.YtopengbflnoneaaSegKill
namespace Go.Proofs.Ytopengbflnoneaa
open Go.RowKit

theorem My.top {w0 w : World} {b lim : Nat} {xs : List Nd} {Pr : Nat → Prop} (h : My w0 b lim xs Pr w) : xs.length ≤ 4194304 := by
  obtain ⟨A, c, h1, _⟩ := h
  have := h1.fits
  have := h1.top
  omega
/-- The node that a number leads to: a tree's, or the one without values. -/
theorem node_of {w0 w : World} {b lim : Nat} {xs : List Nd} {Pr : Nat → Prop} (hM : My w0 b lim xs Pr w) {h : Nat} {lo : Int} {t : Sh} {kvs : List (Int × Int)} (ht : Tr xs h lo t kvs) {i : Int} (hi : Num xs t i) (h32 : -2147483648 ≤ i ∧ i ≤ 2147483647) :
    ∃ z, nag z = ofL (vs kvs) ∧ (∀ (j : Nat) (l r : Sh), t = .node j l r → i = (j : Int) + 1 ∧ xs[j]? = some z ∧ z.l = l.idx ∧ z.r = r.idx) ∧ (t = .nil → z = Nd.zero) ∧ ∀ W, Keep w W → Calls Try.prog 55 #[.pointer (some ⟨b, 0, none⟩), .int .i32 i] W fun e w' => e = .returned (.agg #[.int .i32 z.l, .int .i32 z.r, .int .i64 z.c, .int .i64 z.s, .int .i64 z.mn, .int .i64 z.mx, .bool z.k]) ∧ Keep W w' := by
  obtain ⟨A, c, hA, _⟩ := hM
  cases t with
  | nil =>
    obtain rfl := val_nil_eq ht.val
    exact ⟨Nd.zero, rfl, (fun j l r e => by cases e), fun _ => rfl, fun W hW => node_no i (hA.keep hW) h32 hi⟩
  | node j l r =>
    obtain ⟨z, h1, h2, h3, h4⟩ := ht.root
    obtain rfl : i = (j : Int) + 1 := hi
    exact ⟨z, h4, fun j' l' r' e => by cases e; exact ⟨rfl, h1, h2, h3⟩, (fun e => by cases e), fun W hW => node_yes j z (hA.keep hW) h1⟩
theorem Turn.mono {w0 w : World} {b lim : Nat} {Pr : Nat → Prop} {Q Q' : Ending → List Nd → Prop} (hQ : ∀ e xs, Q e xs → Q' e xs) : ∀ e w', Turn w0 b lim Pr w Q e w' → Turn w0 b lim Pr w Q' e w' := fun _ _ ⟨xs, h1, h2⟩ => ⟨xs, hQ _ _ h1, h2⟩
/-- settle, above two trees. -/
theorem settle_tree {w0 w : World} {b lim : Nat} {xs : List Nd} {Pr : Nat → Prop} (hM : My w0 b lim xs Pr w) {j : Nat} (hj : j < xs.length) (n : Nd) {h : Nat} {lo : Int} {l r : Sh} {k1 k2 : List (Int × Int)} (t1 : Tr xs h lo l k1) (t2 : Tr xs h (lo + 2 ^ h) r k2) (e1 : n.l = l.idx) (e2 : n.r = r.idx) :
    Calls Try.prog 54 #[.pointer (some ⟨b, 0, none⟩), .int .i32 ((j : Int) + 1), .agg #[.int .i32 n.l, .int .i32 n.r, .int .i64 n.c, .int .i64 n.s, .int .i64 n.mn, .int .i64 n.mx, .bool n.k]] w (Turn w0 b lim Pr w fun e xs' => (∃ v, e = .returned v) ∧ xs' = xs.set j (ndOf l.idx r.idx (mrg (ofL (vs k1)) (ofL (vs k2))) n.k)) := by
  obtain ⟨zl, a1, _, _, c1⟩ := node_of hM t1 (Num.idx xs l) (i32_idx t1.shp hM.top)
  obtain ⟨zr, a2, _, _, c2⟩ := node_of hM t2 (Num.idx xs r) (i32_idx t2.shp hM.top)
  refine (settle_any j n zl zr hM hj (by rw [e1]; exact c1) (by rw [e2]; exact c2)).mono ?_
  rintro e w' ⟨hv, hm, ho⟩
  rw [a1, a2, e1, e2] at hm
  exact ⟨_, ⟨hv, rfl⟩, hm, ho⟩
theorem two_pow (h : Nat) : (2 : Int) ^ (h + 1) = 2 ^ h + 2 ^ h := by rw [Int.pow_succ]; omega
theorem pow_pos2 (h : Nat) : (0 : Int) < 2 ^ h := Int.pow_pos (by decide)
theorem mid_of (lo : Int) (h : Nat) : lo + ((lo + 2 ^ (h + 1) - 1) - lo) / 2 = lo + 2 ^ h - 1 := by
  have := two_pow h
  have := pow_pos2 h
  omega
/-- What kill leaves of a tree. -/
def Killed (xs : List Nd) (h : Nat) (lo : Int) (t : Sh) (kvs : List (Int × Int)) (p q : Int) (xs' : List Nd) : Prop :=
  xs'.length = xs.length ∧ Agree xs xs' (· ∉ t.ins) ∧ Tr xs' h lo t (kvs.filter (fun x => !inS p q x))
theorem kill_any {w0 : World} {b lim : Nat} {p q : Int} : ∀ (h : Nat) (lo i : Int) (t : Sh) (kvs : List (Int × Int)) (xs : List Nd) (Pr : Nat → Prop) (w : World), 0 ≤ lo → lo + 2 ^ h - 1 ≤ 4294967295 → Tr xs h lo t kvs → Num xs t i → (-2147483648 ≤ i ∧ i ≤ 2147483647) → kvs.length ≤ 1000000 → My w0 b lim xs Pr w →
    Calls Try.prog 34 #[.pointer (some ⟨b, 0, none⟩), .int .i32 i, .agg #[.int .u32 lo, .int .u32 (lo + 2 ^ h - 1)], .agg #[.int .u32 p, .int .u32 q]] w (Turn w0 b lim Pr w fun e xs' => (∃ v, e = .returned v) ∧ Killed xs h lo t kvs p q xs')
  | h, lo, i, t, kvs, xs, Pr, w, h0, h1, ht, hn, h32, hl, hM => by
    obtain ⟨z, hz, hnode, hnil, hN⟩ := node_of hM ht hn h32
    have hself : Agree xs xs (· ∉ t.ins) := fun _ _ => rfl
    have hc := (ht.isOf hl).c
    rw [← hz] at hc
    simp only [nag, vs_length] at hc
    by_cases hk : kvs = []
    · subst hk
      refine (kill_none (by simpa using hc) hN).mono ?_
      rintro e w' ⟨hv, hk⟩
      exact ⟨xs, ⟨hv, rfl, hself, ht⟩, hM.kept hk, Only.of_keep _ hk⟩
    · have hc0 : z.c ≠ 0 := fun e => hk (List.eq_nil_of_length_eq_zero (by omega))
      by_cases ha : q < p ∨ lo + 2 ^ h - 1 < p ∨ q < lo
      · refine (kill_apart hc0 (decide_eq_true ha) hN).mono ?_
        rintro e w' ⟨hv, hk'⟩
        exact ⟨xs, ⟨hv, rfl, hself, by rw [not_none ht.val p q ha]; exact ht⟩, hM.kept hk', Only.of_keep _ hk'⟩
      · obtain ⟨j, l, r, rfl⟩ : ∃ j l r, t = .node j l r := by
          cases t with
          | nil => exact absurd (val_nil_eq ht.val) hk
          | node j l r => exact ⟨j, l, r, rfl⟩
        obtain ⟨hij, hzj, ezl, ezr⟩ := hnode j l r rfl
        have hj := (List.getElem?_eq_some_iff.1 hzj).1
        by_cases hw : p ≤ lo ∧ lo + 2 ^ h - 1 ≤ q
        · refine (kill_within j hij hM hj hc0 (decide_eq_false ha) (decide_eq_true hw) hN).mono (Turn.mono ?_)
          rintro e xs' ⟨hv, rfl⟩
          refine ⟨hv, by simp, fun k hk' => List.getElem?_set_ne (fun e => hk' (by subst e; simp [Sh.ins])), ?_⟩
          rw [not_all ht.val p q hw.1 hw.2, ezl, ezr]
          exact Tr.kill ht.shp ht.fit ht.nodup
        · cases h with
          | zero => exfalso; simp at ha hw; omega
          | succ h =>
            have e2 := two_pow h
            have epos := pow_pos2 h
            have hkf : z.k = false := by
              cases hzk : z.k with
              | false => rfl
              | true => exact absurd (ht.killed hzj hzk) hk
            obtain ⟨k1, k2, rfl, t1, t2⟩ := ht.halves hzj hkf
            obtain ⟨⟨n1, n2⟩, n3, n4, n5⟩ := nodup_node.1 ht.nodup
            have hl1 : k1.length ≤ 1000000 := by rw [List.length_append] at hl; omega
            have hl2 : k2.length ≤ 1000000 := by rw [List.length_append] at hl; omega
            have eh : lo + 2 ^ h + 2 ^ h - 1 = lo + 2 ^ (h + 1) - 1 := by omega
            refine (kill_both (mid := lo + 2 ^ h - 1) (P1 := fun xs1 => Killed xs h lo l k1 p q xs1)
              (P2 := fun xs2 => xs2.length = xs.length ∧ Agree xs xs2 (fun k => k ∉ l.ins ∧ k ∉ r.ins) ∧ Tr xs2 h lo l (k1.filter (fun x => !inS p q x)) ∧ Tr xs2 h (lo + 2 ^ h) r (k2.filter (fun x => !inS p q x)))
              (P3 := Killed xs (h + 1) lo (.node j l r) (k1 ++ k2) p q) hM hc0 (decide_eq_false ha) (decide_eq_false hw) h0 (by omega) h1 (mid_of lo h) hN ?_ ?_ ?_)
            · intro Pr' W hM'
              have := kill_any (p := p) (q := q) h lo z.l l k1 xs Pr' W h0 (by omega) t1 (by rw [ezl]; exact Num.idx xs l) (by rw [ezl]; exact i32_idx t1.shp hM.top) hl1 hM'
              exact this
            · rintro Pr' W xs1 ⟨q1, q2, q3⟩ hM'
              have t2' : Tr xs1 h (lo + 2 ^ h) r k2 := t2.frame (fun k hk' => q2 k (fun hk'' => n5 k hk'' hk'))
              have := kill_any (p := p) (q := q) h (lo + 2 ^ h) z.r r k2 xs1 Pr' W (by omega) (by omega) t2' (by rw [ezr]; exact Num.idx xs1 r) (by rw [ezr]; exact i32_idx t2'.shp hM'.top) hl2 hM'
              rw [eh] at this
              rw [show lo + 2 ^ h - 1 + 1 = lo + 2 ^ h from by omega]
              refine this.mono (Turn.mono ?_)
              rintro e xs2 ⟨hv, p1, p2, p3⟩
              exact ⟨hv, p1.trans q1, fun k hk' => (p2 k hk'.2).trans (q2 k hk'.1), q3.frame (fun k hk' => p2 k (fun hk'' => n5 k hk' hk'')), p3⟩
            · rintro Pr' W xs2 ⟨p1, p2, p3, p4⟩ hM'
              rw [hij]
              refine (settle_tree hM' (by rw [p1]; exact hj) z p3 p4 ezl ezr).mono (Turn.mono ?_)
              rintro e xs3 ⟨hv, rfl⟩
              have hf : (k1.filter (fun x => !inS p q x) ++ k2.filter (fun x => !inS p q x)).length ≤ 1000000 := by
                have := List.length_filter_le (fun x => !inS p q x) k1
                have := List.length_filter_le (fun x => !inS p q x) k2
                rw [List.length_append] at hl ⊢
                omega
              rw [hkf]
              refine ⟨hv, by rw [List.length_set, p1], fun k hk' => ?_, ?_⟩
              · simp only [Sh.ins, List.mem_cons, List.mem_append, not_or] at hk'
                rw [List.getElem?_set_ne (fun e => hk'.1 e.symm)]
                exact p2 k hk'.2
              · rw [List.filter_append]
                exact Tr.join (by rw [p1]; exact hj) ht.nodup p3 p4 hf
end Go.Proofs.Ytopengbflnoneaa
