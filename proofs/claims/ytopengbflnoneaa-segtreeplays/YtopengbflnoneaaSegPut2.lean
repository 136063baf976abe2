/- segtree.put: for every tree and key. -/
import Derived.Test.YtopengbflnoneaaSegPut
namespace Go.Proofs.Ytopengbflnoneaa
open Go.RowKit

/-- A tree's first node is killed, if there is one. -/
def KillAt (xs : List Nd) : Sh → List Nd → Prop
  | .nil, xs' => xs' = xs
  | .node j l r, xs' => xs' = xs.set j (ndOf l.idx r.idx nil0 true)
theorem KillAt.len {xs xs' : List Nd} {t : Sh} (h : KillAt xs t xs') : xs'.length = xs.length := by
  cases t with
  | nil => rw [h]
  | node j l r => rw [show xs' = _ from h, List.length_set]
theorem KillAt.agree {xs xs' : List Nd} {t : Sh} (h : KillAt xs t xs') : Agree xs xs' (· ∉ t.ins) := by
  intro k hk
  cases t with
  | nil => rw [h]
  | node j l r =>
    rw [show xs' = _ from h, List.getElem?_set_ne]
    exact fun e => hk (by subst e; simp [Sh.ins])
theorem KillAt.tr {xs xs' : List Nd} {t : Sh} (h : KillAt xs t xs') (hs : Shp xs t) {ht : Nat} (hf : Sh.fit ht t) (hn : t.ins.Nodup) (lo : Int) : Tr xs' ht lo t [] := by
  cases t with
  | nil => exact Tr.nil _ _ _
  | node j l r =>
    rw [show xs' = _ from h]
    exact Tr.kill hs hf hn
theorem round_kill {w0 : World} {b lim : Nat} {t : Sh} {i : Int} (hi : i = t.idx) (P P' : List Nd → Prop) (hP : ∀ xs, P xs → Shp xs t) (hP' : ∀ xs xs', P xs → KillAt xs t xs' → P' xs') : Round w0 b lim i P P' := by
  subst hi
  intro xs hx
  have hs := hP xs hx
  cases t with
  | nil =>
    refine ⟨Nd.zero, 4, fun Pr W hM => ?_, fun Pr W hM => ?_⟩
    · obtain ⟨A, c, hA, _⟩ := hM
      exact node_no 0 hA (by decide) (by omega)
    · refine (my_setno 0 _ hM (by decide) (by omega)).mono ?_
      rintro e w' ⟨he, hk⟩
      exact ⟨xs, ⟨he, hP' xs xs hx rfl⟩, hM.kept hk, Only.of_keep _ hk⟩
  | node j l r =>
    obtain ⟨⟨z, h1, h2, h3⟩, _, _⟩ := hs
    refine ⟨z, 0, fun Pr W hM => ?_, fun Pr W hM => ?_⟩
    · obtain ⟨A, c, hA, _⟩ := hM
      exact node_yes j z hA h1
    · refine (my_set j _ hM (List.getElem?_eq_some_iff.1 h1).1).mono ?_
      rintro e w' ⟨he, hm, ho⟩
      exact ⟨_, ⟨he, hP' xs _ hx (show _ = _ by rw [h2, h3])⟩, hm, ho⟩
/-- What put makes of a tree. -/
def PutTo (xs : List Nd) (h : Nat) (lo : Int) (t : Sh) (kvs : List (Int × Int)) (key v : Int) (xs' : List Nd) : Prop :=
  xs'.length = xs.length + lack h lo key t ∧ (∀ k, k < xs.length → k ∉ t.ins → xs'[k]? = xs[k]?) ∧ Tr xs' h lo (grow h lo key xs.length t) (insK key v kvs)
/-- What handDown leaves: the halves, by themselves. -/
def Downed (xs : List Nd) (h : Nat) (lo : Int) (l r : Sh) (k1 k2 : List (Int × Int)) (xs1 : List Nd) : Prop :=
  xs1.length = xs.length ∧ Agree xs xs1 (fun k => k ∉ l.ins ∧ k ∉ r.ins) ∧ Tr xs1 h lo l k1 ∧ Tr xs1 h (lo + 2 ^ h) r k2
theorem down_any {w0 : World} {b lim : Nat} {xs : List Nd} {h : Nat} {lo : Int} {j : Nat} {l r : Sh} {kvs : List (Int × Int)} {z : Nd} (ht : Tr xs (h + 1) lo (.node j l r) kvs) (hz : xs[j]? = some z) :
    ∃ (z2 : Nd) (k1 k2 : List (Int × Int)), kvs = k1 ++ k2 ∧ z2.l = l.idx ∧ z2.r = r.idx ∧ z2.k = false ∧ ∀ Pr' W, My w0 b lim xs Pr' W → Calls Try.prog 52 #[.pointer (some ⟨b, 0, none⟩), .agg #[.int .i32 z.l, .int .i32 z.r, .int .i64 z.c, .int .i64 z.s, .int .i64 z.mn, .int .i64 z.mx, .bool z.k]] W (Turn w0 b lim Pr' W fun e xs' => e = .returned (.agg #[.int .i32 z2.l, .int .i32 z2.r, .int .i64 z2.c, .int .i64 z2.s, .int .i64 z2.mn, .int .i64 z2.mx, .bool z2.k]) ∧ Downed xs h lo l r k1 k2 xs') := by
  obtain ⟨z', hz', ezl, ezr, _⟩ := ht.root
  obtain rfl : z' = z := Option.some.inj (hz'.symm.trans hz)
  obtain ⟨⟨n1, n2⟩, n3, n4, n5⟩ := nodup_node.1 ht.nodup
  by_cases hk : z'.k = false
  · skip
    obtain ⟨k1, k2, e, t1, t2⟩ := ht.halves hz hk
    refine ⟨z', k1, k2, e, ezl, ezr, hk, fun Pr' W hM => (down_alive hk).mono ?_⟩
    rintro e w' ⟨he, hk'⟩
    exact ⟨xs, ⟨he, rfl, fun _ _ => rfl, t1, t2⟩, hM.kept hk', Only.of_keep _ hk'⟩
  · have hk : z'.k = true := by simpa using hk
    obtain rfl := ht.killed hz hk
    obtain ⟨_, s1, s2⟩ := ht.shp
    refine ⟨ndOf z'.l z'.r (nag z') false, [], [], rfl, ezl, ezr, rfl, fun Pr' W hM => ?_⟩
    have hfr : ∀ xs1, KillAt xs l xs1 → Shp xs1 r := fun xs1 h1 => s2.frame (fun k hk' => h1.agree k (fun hk'' => n5 k hk'' hk'))
    refine (down_killed (P := fun q xs' => match q with | 0 => xs' = xs | 1 => KillAt xs l xs' | _ => ∃ xs1, KillAt xs l xs1 ∧ KillAt xs1 r xs') hk hM rfl
      (round_kill ezl _ _ (by rintro _ rfl; exact s1) (by rintro _ _ rfl h1; exact h1))
      (round_kill ezr _ _ (fun xs1 h1 => hfr xs1 h1) (fun xs1 xs2 h1 h2 => ⟨xs1, h1, h2⟩))).mono (Turn.mono ?_)
    rintro e xs2 ⟨he, xs1, h1, h2⟩
    refine ⟨he, h2.len.trans h1.len, fun k hk' => (h2.agree k hk'.2).trans (h1.agree k hk'.1), (h1.tr s1 ht.fit.1 n3 lo).frame (fun k hk' => h2.agree k (fun hk'' => n5 k hk' hk'')), h2.tr (hfr xs1 h1) ht.fit.2 n4 _⟩
theorem grow_left {h : Nat} {lo key : Int} {n j : Nat} {l r : Sh} (hc : key < lo + 2 ^ h) : grow (h + 1) lo key n (.node j l r) = .node j (grow h lo key n l) r := by rw [grow, if_pos hc]
theorem grow_right {h : Nat} {lo key : Int} {n j : Nat} {l r : Sh} (hc : ¬ key < lo + 2 ^ h) : grow (h + 1) lo key n (.node j l r) = .node j l (grow h (lo + 2 ^ h) key n r) := by rw [grow, if_neg hc]
theorem grow_nleft {h : Nat} {lo key : Int} {n : Nat} (hc : key < lo + 2 ^ h) : grow (h + 1) lo key n .nil = .node n (grow h lo key (n + 1) .nil) .nil := by rw [grow, if_pos hc]
theorem grow_nright {h : Nat} {lo key : Int} {n : Nat} (hc : ¬ key < lo + 2 ^ h) : grow (h + 1) lo key n .nil = .node n .nil (grow h (lo + 2 ^ h) key (n + 1) .nil) := by rw [grow, if_neg hc]
theorem lack_left {h : Nat} {lo key : Int} {j : Nat} {l r : Sh} (hc : key < lo + 2 ^ h) : lack (h + 1) lo key (.node j l r) = lack h lo key l := by rw [lack, if_pos hc]
theorem lack_right {h : Nat} {lo key : Int} {j : Nat} {l r : Sh} (hc : ¬ key < lo + 2 ^ h) : lack (h + 1) lo key (.node j l r) = lack h (lo + 2 ^ h) key r := by rw [lack, if_neg hc]
theorem set_snoc (xs : List Nd) (y z : Nd) : (xs ++ [y]).set xs.length z = xs ++ [z] := by
  rw [List.set_append_right _ _ (Nat.le_refl _), Nat.sub_self]
  rfl
theorem put_any {w0 : World} {b lim : Nat} {key v : Int} (hv : inI v) : ∀ (h : Nat) (lo i : Int) (t : Sh) (kvs : List (Int × Int)) (xs : List Nd) (Pr : Nat → Prop) (w : World), 0 ≤ lo → lo + 2 ^ h - 1 ≤ 4294967295 → Tr xs h lo t kvs → Num xs t i → (-2147483648 ≤ i ∧ i ≤ 2147483647) → kvs.length ≤ 999999 → My w0 b lim xs Pr w → lo ≤ key → key < lo + 2 ^ h → xs.length + lack h lo key t ≤ lim →
    Calls Try.prog 32 #[.pointer (some ⟨b, 0, none⟩), .int .i32 i, .agg #[.int .u32 lo, .int .u32 (lo + 2 ^ h - 1)], .int .u32 key, .int .i64 v] w (Turn w0 b lim Pr w fun e xs' => e = .returned (.int .i32 (grow h lo key xs.length t).idx) ∧ PutTo xs h lo t kvs key v xs')
  | 0, lo, i, .nil, kvs, xs, Pr, w, h0, h1, ht, hn, h32, hl, hM, k0, k1, hlim => by
    obtain rfl := val_nil_eq ht.val
    have ek : key = lo := by simp at k1; omega
    subst ek
    rw [lack_nil] at hlim
    refine (put_made_leaf hM h32 hn (by omega) (by simp) hv).mono (Turn.mono ?_)
    rintro e xs' ⟨he, rfl⟩
    refine ⟨he, by simp [lack_nil], fun k hk _ => ?_, ?_⟩
    · rw [List.getElem?_set_ne (by omega), List.getElem?_append_left hk]
    · exact Tr.leaf (by simp) hv
  | 0, lo, i, .node j l r, kvs, xs, Pr, w, h0, h1, ht, hn, h32, hl, hM, k0, k1, hlim => by
    have ek : key = lo := by simp at k1; omega
    subst ek
    obtain ⟨z, hz, _⟩ := ht.root
    obtain ⟨rfl, rfl, hkv⟩ := ht.at_leaf
    obtain rfl : i = (j : Int) + 1 := hn
    refine (put_got_leaf hM j hz rfl (by simp) hv).mono (Turn.mono ?_)
    rintro e xs' ⟨he, rfl⟩
    refine ⟨he, by simp [lack], fun k _ hk => List.getElem?_set_ne (fun e => hk (by subst e; simp [Sh.ins])), ?_⟩
    rw [insK_leaf hkv]
    exact Tr.leaf (List.getElem?_eq_some_iff.1 hz).1 hv
  | h + 1, lo, i, .nil, kvs, xs, Pr, w, h0, h1, ht, hn, h32, hl, hM, k0, k1, hlim => by
    obtain rfl := val_nil_eq ht.val
    have e2 := two_pow h
    have epos := pow_pos2 h
    have eh : lo + 2 ^ h + 2 ^ h - 1 = lo + 2 ^ (h + 1) - 1 := by omega
    have em : lo + 2 ^ h - 1 + 1 = lo + 2 ^ h := by omega
    rw [lack_nil] at hlim
    have hD : ∀ Pr' W, My w0 b lim (xs ++ [Nd.zero]) Pr' W → Calls Try.prog 52 #[.pointer (some ⟨b, 0, none⟩), .agg #[.int .i32 Nd.zero.l, .int .i32 Nd.zero.r, .int .i64 Nd.zero.c, .int .i64 Nd.zero.s, .int .i64 Nd.zero.mn, .int .i64 Nd.zero.mx, .bool Nd.zero.k]] W (Turn w0 b lim Pr' W fun e xs' => e = .returned (.agg #[.int .i32 Nd.zero.l, .int .i32 Nd.zero.r, .int .i64 Nd.zero.c, .int .i64 Nd.zero.s, .int .i64 Nd.zero.mn, .int .i64 Nd.zero.mx, .bool Nd.zero.k]) ∧ xs' = xs ++ [Nd.zero]) := fun Pr' W hM' => (down_alive (z := Nd.zero) rfl).mono (by
      rintro e w' ⟨he, hk'⟩
      exact ⟨_, ⟨he, rfl⟩, hM'.kept hk', Only.of_keep _ hk'⟩)
    have hnd := grow_nodup (h + 1) lo key xs.length .nil (by simp [Sh.ins]) (by simp [Sh.ins])
    have hlen1 : (xs ++ [Nd.zero]).length = xs.length + 1 := by simp
    by_cases hc : key < lo + 2 ^ h
    · rw [grow_nleft hc] at hnd ⊢
      refine (put_made_left (mid := lo + 2 ^ h - 1) (i2 := (grow h lo key (xs.length + 1) .nil).idx) (z2 := Nd.zero) (P1 := fun xs1 => xs1 = xs ++ [Nd.zero]) (P2 := PutTo (xs ++ [Nd.zero]) h lo .nil [] key v) (P3 := PutTo xs (h + 1) lo .nil [] key v) hM h32 hn (by omega) h0 (by omega) h1 (mid_of lo h) (by omega) hD ?_ ?_)
      · rintro Pr' W xs1 rfl hM'
        have := put_any (key := key) hv h lo 0 .nil [] (xs ++ [Nd.zero]) Pr' W h0 (by omega) (Tr.nil _ _ _) (by simp [Num]) (by decide) (by simp) hM' k0 hc (by rw [lack_nil]; simp; omega)
        rw [hlen1] at this
        exact this
      · rintro Pr' W xs2 ⟨p1, p2, p3⟩ hM'
        rw [hlen1] at p3
        refine (settle_tree hM' (j := xs.length) (by rw [p1]; simp; omega) ⟨(grow h lo key (xs.length + 1) .nil).idx, 0, 0, 0, 0, 0, false⟩ p3 (Tr.nil _ _ _) rfl rfl).mono (Turn.mono ?_)
        rintro e xs3 ⟨hu, rfl⟩
        refine ⟨hu, by rw [List.length_set, p1, lack_nil, lack_nil]; simp; omega, fun k hk _ => ?_, ?_⟩
        · rw [List.getElem?_set_ne (by omega), p2 k (by simp; omega) (by simp [Sh.ins]), List.getElem?_append_left hk]
        · rw [grow_nleft hc]
          have := Tr.join (j := xs.length) (by rw [p1]; simp; omega) hnd p3 (Tr.nil _ _ _) (by rw [List.append_nil]; have := insK_length key v []; simp at this; omega)
          rw [List.append_nil] at this
          exact this
    · rw [grow_nright hc] at hnd ⊢
      refine (put_made_right (mid := lo + 2 ^ h - 1) (i2 := (grow h (lo + 2 ^ h) key (xs.length + 1) .nil).idx) (z2 := Nd.zero) (P1 := fun xs1 => xs1 = xs ++ [Nd.zero]) (P2 := PutTo (xs ++ [Nd.zero]) h (lo + 2 ^ h) .nil [] key v) (P3 := PutTo xs (h + 1) lo .nil [] key v) hM h32 hn (by omega) h0 (by omega) h1 (mid_of lo h) (by omega) hD ?_ ?_)
      · rintro Pr' W xs1 rfl hM'
        have := put_any (key := key) hv h (lo + 2 ^ h) 0 .nil [] (xs ++ [Nd.zero]) Pr' W (by omega) (by omega) (Tr.nil _ _ _) (by simp [Num]) (by decide) (by simp) hM' (by omega) (by omega) (by rw [lack_nil]; simp; omega)
        rw [hlen1, eh] at this
        rw [em]
        exact this
      · rintro Pr' W xs2 ⟨p1, p2, p3⟩ hM'
        rw [hlen1] at p3
        refine (settle_tree hM' (j := xs.length) (by rw [p1]; simp; omega) ⟨0, (grow h (lo + 2 ^ h) key (xs.length + 1) .nil).idx, 0, 0, 0, 0, false⟩ (Tr.nil _ _ _) p3 rfl rfl).mono (Turn.mono ?_)
        rintro e xs3 ⟨hu, rfl⟩
        refine ⟨hu, by rw [List.length_set, p1, lack_nil, lack_nil]; simp; omega, fun k hk _ => ?_, ?_⟩
        · rw [List.getElem?_set_ne (by omega), p2 k (by simp; omega) (by simp [Sh.ins]), List.getElem?_append_left hk]
        · rw [grow_nright hc]
          exact Tr.join (j := xs.length) (k1 := []) (by rw [p1]; simp; omega) hnd (Tr.nil _ _ _) p3 (by rw [List.nil_append]; have := insK_length key v []; simp at this; omega)
  | h + 1, lo, i, .node j l r, kvs, xs, Pr, w, h0, h1, ht, hn, h32, hl, hM, k0, k1, hlim => by
    have e2 := two_pow h
    have epos := pow_pos2 h
    have eh : lo + 2 ^ h + 2 ^ h - 1 = lo + 2 ^ (h + 1) - 1 := by omega
    have em : lo + 2 ^ h - 1 + 1 = lo + 2 ^ h := by omega
    obtain ⟨z, hz, _⟩ := ht.root
    have hj := (List.getElem?_eq_some_iff.1 hz).1
    have hij : i = (j : Int) + 1 := hn
    obtain ⟨z2, q1, q2, rfl, ez1, ez2, ezk, hD⟩ := down_any (w0 := w0) (b := b) (lim := lim) ht hz
    obtain ⟨⟨n1, n2⟩, n3, n4, n5⟩ := nodup_node.1 ht.nodup
    have hnd := grow_nodup (h + 1) lo key xs.length (.node j l r) ht.nodup ht.lt
    have hlq : q1.length ≤ 999999 ∧ q2.length ≤ 999999 := by rw [List.length_append] at hl; omega
    by_cases hc : key < lo + 2 ^ h
    · rw [lack_left hc] at hlim
      rw [grow_left hc] at hnd ⊢
      refine (put_got_left (mid := lo + 2 ^ h - 1) (i2 := (grow h lo key xs.length l).idx) (z2 := z2) (P1 := Downed xs h lo l r q1 q2) (P2 := fun xs2 => xs2.length = xs.length + lack h lo key l ∧ (∀ k, k < xs.length → k ∉ l.ins → k ∉ r.ins → xs2[k]? = xs[k]?) ∧ Tr xs2 h lo (grow h lo key xs.length l) (insK key v q1) ∧ Tr xs2 h (lo + 2 ^ h) r q2) (P3 := PutTo xs (h + 1) lo (.node j l r) (q1 ++ q2) key v) hM j hz hij h0 (by omega) h1 (mid_of lo h) (by omega) hD ?_ ?_)
      · rintro Pr' W xs1 ⟨d1, d2, d3, d4⟩ hM'
        have := put_any (key := key) hv h lo z2.l l q1 xs1 Pr' W h0 (by omega) d3 (by rw [ez1]; exact Num.idx xs1 l) (by rw [ez1]; exact i32_idx d3.shp hM'.top) hlq.1 hM' k0 hc (by rw [d1]; exact hlim)
        rw [d1] at this
        refine this.mono (Turn.mono ?_)
        rintro e xs2 ⟨he, p1, p2, p3⟩
        rw [d1] at p1 p2 p3
        refine ⟨he, p1, fun k hk hk1 hk2 => (p2 k hk hk1).trans (d2 k ⟨hk1, hk2⟩), p3, d4.frame (fun k hk' => ?_)⟩
        exact p2 k (by rw [← d1]; exact d4.lt k hk') (fun hk'' => n5 k hk'' hk')
      · rintro Pr' W xs2 ⟨p1, p2, p3, p4⟩ hM'
        refine (settle_tree hM' (j := j) (by rw [p1]; omega) ⟨(grow h lo key xs.length l).idx, z2.r, z2.c, z2.s, z2.mn, z2.mx, z2.k⟩ p3 p4 rfl ez2).mono (Turn.mono ?_)
        rintro e xs3 ⟨hu, rfl⟩
        refine ⟨hu, by rw [List.length_set, p1, lack_left hc], fun k hk hk' => ?_, ?_⟩
        · simp only [Sh.ins, List.mem_cons, List.mem_append, not_or] at hk'
          rw [List.getElem?_set_ne (fun e => hk'.1 e.symm)]
          exact p2 k hk hk'.2.1 hk'.2.2
        · rw [grow_left hc, insK_left p4.val key v hc]
          simp only [ezk]
          exact Tr.join (by rw [p1]; omega) hnd p3 p4 (by have := insK_length key v q1; rw [List.length_append] at hl ⊢; omega)
    · rw [lack_right hc] at hlim
      rw [grow_right hc] at hnd ⊢
      refine (put_got_right (mid := lo + 2 ^ h - 1) (i2 := (grow h (lo + 2 ^ h) key xs.length r).idx) (z2 := z2) (P1 := Downed xs h lo l r q1 q2) (P2 := fun xs2 => xs2.length = xs.length + lack h (lo + 2 ^ h) key r ∧ (∀ k, k < xs.length → k ∉ l.ins → k ∉ r.ins → xs2[k]? = xs[k]?) ∧ Tr xs2 h lo l q1 ∧ Tr xs2 h (lo + 2 ^ h) (grow h (lo + 2 ^ h) key xs.length r) (insK key v q2)) (P3 := PutTo xs (h + 1) lo (.node j l r) (q1 ++ q2) key v) hM j hz hij h0 (by omega) h1 (mid_of lo h) (by omega) hD ?_ ?_)
      · rintro Pr' W xs1 ⟨d1, d2, d3, d4⟩ hM'
        have := put_any (key := key) hv h (lo + 2 ^ h) z2.r r q2 xs1 Pr' W (by omega) (by omega) d4 (by rw [ez2]; exact Num.idx xs1 r) (by rw [ez2]; exact i32_idx d4.shp hM'.top) hlq.2 hM' (by omega) (by omega) (by rw [d1]; exact hlim)
        rw [d1, eh] at this
        rw [em]
        refine this.mono (Turn.mono ?_)
        rintro e xs2 ⟨he, p1, p2, p3⟩
        rw [d1] at p1 p2 p3
        refine ⟨he, p1, fun k hk hk1 hk2 => (p2 k hk hk2).trans (d2 k ⟨hk1, hk2⟩), d3.frame (fun k hk' => ?_), p3⟩
        exact p2 k (by rw [← d1]; exact d3.lt k hk') (fun hk'' => n5 k hk' hk'')
      · rintro Pr' W xs2 ⟨p1, p2, p3, p4⟩ hM'
        refine (settle_tree hM' (j := j) (by rw [p1]; omega) ⟨z2.l, (grow h (lo + 2 ^ h) key xs.length r).idx, z2.c, z2.s, z2.mn, z2.mx, z2.k⟩ p3 p4 ez1 rfl).mono (Turn.mono ?_)
        rintro e xs3 ⟨hu, rfl⟩
        refine ⟨hu, by rw [List.length_set, p1, lack_right hc], fun k hk hk' => ?_, ?_⟩
        · simp only [Sh.ins, List.mem_cons, List.mem_append, not_or] at hk'
          rw [List.getElem?_set_ne (fun e => hk'.1 e.symm)]
          exact p2 k hk hk'.2.1 hk'.2.2
        · rw [grow_right hc, insK_right p3.val (Int.le_refl _) key v (by omega)]
          simp only [ezk]
          exact Tr.join (by rw [p1]; omega) hnd p3 p4 (by have := insK_length key v q2; rw [List.length_append] at hl ⊢; omega)
end Go.Proofs.Ytopengbflnoneaa
