/- segtree.lacking: how many of a key's beginnings have no node. -/
import Derived.Test.YtopengbflnoneaaSegWay
namespace Go.Proofs.Ytopengbflnoneaa
open Go.RowKit Go.Shelf
attribute [local go_sem] Oper.semAt_some

/-- What way answers goes through the nodes of a key's beginnings. -/
theorem way_seq (n : Nat) (hn : 1 ≤ n) {w0 w w1 : World} {b lim : Nat} {xs : List Nd} {Pr T0 : Nat → Prop} {Bt Bk : Nat} {key : Int} {t : Sh} {L0 : Nat} (hM : My w0 b lim xs Pr w) (hk : Keep w w1)
    (hT0 : ∀ k, T0 k → w.heap.size ≤ k ∧ k < w1.heap.size) (ht : Shp xs t) (hf : Sh.fit 32 t) (hnum : Num xs t 1) (k0 : 0 ≤ key) (k1 : key ≤ 4294967295) (hL : lack 32 0 key t = L0)
    (ct : w1.cell? ⟨Bt, 0, none⟩ = some (.pointer (some ⟨b, 0, none⟩))) (ck : w1.cell? ⟨Bk, 0, none⟩ = some (.int .u32 key)) (hBt : ¬ T0 Bt) (hBk : ¬ T0 Bk) :
    SeqX Fence.wide n Try.prog 67 #[.pointer (some ⟨Bt, 0, none⟩), .pointer (some ⟨Bk, 0, none⟩)] (fun x : Nd => #[.agg #[.int .i32 x.l, .int .i32 x.r, .int .i64 x.c, .int .i64 x.s, .int .i64 x.mn, .int .i64 x.mx, .bool x.k]]) (fun _ _ _ => True) (TW w1.heap.size T0) (fun ys => ys.length + L0 = 33) (fun _ => True) 33 w1 := by
  intro l J Jx W hW hJ _ hY h0
  have l1 := cell_lt ct
  have l2 := cell_lt ck
  dsimp only at l1 l2
  have hs := hW.size
  have hs0 := hk.size
  have hw0 := hM.keepW.size
  refine way1_in n hn l J Jx (T0 := T0) (n₀ := w1.heap.size) hJ (fun c pre x W1 h1 h2 h3 => hY c pre x W1 h1 trivial h2 h3) (hM.keep (hk.trans hW)) ?_ (fun k hk => by have := hT0 k hk; omega) ht hf hnum k0 k1 hL ((hW.cell (p := ⟨Bt, 0, none⟩) l1).trans ct) ((hW.cell (p := ⟨Bk, 0, none⟩) l2).trans ck) (fun h => ?_) (fun h => ?_) (by omega) (by omega) h0
  · rintro k (h | h)
    · have := hT0 k h
      exact ⟨.inr ⟨this.1, by omega⟩, by omega⟩
    · exact ⟨.inr ⟨by omega, h.2⟩, by omega⟩
  · rcases h with h | h
    · exact hBt h
    · omega
  · rcases h with h | h
    · exact hBk h
    · omega
set_option maxHeartbeats 1000000 in
theorem way_in (n : Nat) (b : Nat) (key : Int) (w : World) :
    CallsIn Fence.wide n Try.prog 46 #[.pointer (some ⟨b, 0, none⟩), .int .u32 key] w fun e w' => e = .returned (.func (.func 67) #[] #[.pointer (some ⟨w.heap.size, 0, none⟩), .pointer (some ⟨w.heap.size + 1, 0, none⟩)]) ∧ w' = (w.alloc (.cells #[.pointer (some ⟨b, 0, none⟩)] 24)).alloc (.cells #[.int .u32 key] 32) := by
  refine callsIn_of_wp Try.func46 rfl trivial ?_ rfl
  simp only [Try.ntmps46, List.size_toArray, List.length_cons, List.length_nil, Nat.reduceAdd, Nat.reduceSub, Array.replicate_succ, Array.replicate_zero, List.push_toArray, List.append_toArray, List.nil_append, List.cons_append]
  gi_wp2
  go_ret
  exact ⟨rfl, rfl⟩
set_option maxRecDepth 100000 in
set_option maxHeartbeats 2000000 in
theorem lacking_is {w0 w : World} {b lim : Nat} {xs : List Nd} {Pr : Nat → Prop} {key : Int} {t : Sh} (hM : My w0 b lim xs Pr w) (ht : Shp xs t) (hf : Sh.fit 32 t) (hnum : Num xs t 1) (k0 : 0 ≤ key) (k1 : key ≤ 4294967295) :
    Calls Try.prog 30 #[.pointer (some ⟨b, 0, none⟩), .int .u32 key] w fun e w' => e = .returned (.int .i64 (lack 32 0 key t)) ∧ Keep w w' := by
  obtain ⟨L0, hL⟩ : ∃ L0, lack 32 0 key t = L0 := ⟨_, rfl⟩
  rw [hL]
  have HM := Lib.hid hM
  have HL := Lib.hid hL
  have HF := Lib.hid hf
  have HT := Lib.hid ht
  have HN := Lib.hid hnum
  have hlk := lack_le 32 0 key t
  rw [hL] at hlk
  clear hM hL hf ht hnum
  refine (callsIn_wide (n := 3)).1 ?_
  refine callsIn_of_wp_marks Try.func30 rfl trivial ?_ rfl
  simp only [Try.ntmps30, List.size_toArray, List.length_cons, List.length_nil, Nat.reduceAdd, Nat.reduceSub, Array.replicate_succ, Array.replicate_zero, List.push_toArray, List.append_toArray, List.nil_append, List.cons_append]
  gi_wp2
  have bC := Boxed.new w 3 (.int .i64 33)
  have hk0 := (Keep.refl w).alloc (.cells #[.int .i64 33] 3)
  generalize hW0 : w.alloc (.cells #[.int .i64 33] 3) = W0 at *
  have hs0 : W0.heap.size = w.heap.size + 1 := by rw [← hW0]; simp
  clear hW0
  refine ⟨trivial, (way_in _ b key W0).mono ?_⟩
  rintro e w1 ⟨rfl, hw1⟩
  have hk1 : Keep W0 w1 := by rw [hw1]; exact ((Keep.refl W0).alloc _).alloc _
  have hs1 : w1.heap.size = w.heap.size + 3 := by rw [hw1]; simp [hs0]
  have ct : w1.cell? ⟨W0.heap.size, 0, none⟩ = some (.pointer (some ⟨b, 0, none⟩)) := by
    rw [hw1]; exact ((Boxed.new W0 24 (.pointer (some ⟨b, 0, none⟩))).alloc _).cell
  have ck : w1.cell? ⟨W0.heap.size + 1, 0, none⟩ = some (.int .u32 key) := by
    rw [hw1]
    have := (Boxed.new (W0.alloc (.cells #[.pointer (some ⟨b, 0, none⟩)] 24)) 32 (.int .u32 key)).cell
    rwa [World.size_alloc] at this
  have bC1 : Boxed w1 w.heap.size 3 (.int .i64 33) := (hk1.block _ (by omega)).trans bC
  have hkw := hk0.trans hk1
  rw [hs0] at ct ck ⊢
  have hseq := way_seq (3 - 1) (by omega) (T0 := fun k => k = w.heap.size) HM.out hkw (fun k hk => by subst hk; omega) HT.out HF.out HN.out k0 k1 HL.out ct ck (by omega) (by omega)
  clear ct ck hw1 bC
  gi_wp2
  refine wpIn_rangeFunc_X rfl (by omega) (gf := 67) (lb := #[.pointer (some ⟨w.heap.size + 1, 0, none⟩), .pointer (some ⟨w.heap.size + 1 + 1, 0, none⟩)]) rfl trivial (enters_of Try.func67 (by kernel_rfl) rfl) hseq
    (fun c => ⟨.inr ⟨by omega, by omega⟩, .inr ⟨by omega, by omega⟩⟩) (Keep.refl w1) (fun _ => rfl)
    (fun _ pre W => Boxed W w.heap.size 3 (.int .i64 (33 - (pre.length : Int))) ∧ Keep w W) (fun _ _ _ _ => False)
    (fun c pre X Y h ho => ⟨Boxed.only h.1 ho (by omega), Only.keep h.2 ho (fun k hk => by omega)⟩) (fun _ _ _ _ _ h _ => h) (fun _ => ⟨by simpa using bC1, hkw⟩)
    (fun _ pre x a' W => a' = { tmps := #[.pointer (some ⟨b, 0, none⟩), .int .u32 key, undef, undef, .int .i64 0, .pointer (some ⟨w.heap.size, 0, none⟩), .pointer (some ⟨b, 0, none⟩), .int .u32 key, .func (.func 67) #[] #[.pointer (some ⟨w.heap.size + 1, 0, none⟩), .pointer (some ⟨w.heap.size + 1 + 1, 0, none⟩)], .agg #[.int .i32 x.l, .int .i32 x.r, .int .i64 x.c, .int .i64 x.s, .int .i64 x.mn, .int .i64 x.mx, .bool x.k], undef, undef, undef], defers := [] }) (fun _ _ _ _ _ _ _ h _ => h) ?assign ?body ?done ?stop
  case assign =>
    rintro l c pre x W K hi - hsz hK
    gi_wp2
    exact hK _ _ (Only.refl _ W) hi (by simp)
  case body =>
    rintro l c pre x a' W ⟨hb, hk⟩ rfl hsz hlen
    have hc := hb.cell
    have hfr := hb.frozen
    have hl3 : (33 : Int) - (pre.length : Int) - 1 = 33 - ((pre ++ [x]).length : Int) := by simp; omega
    have HL3 := Lib.hid hl3
    clear bC1 hkw hseq hl3
    gi_wp2
    refine ⟨(Only.refl _ W).setCell _ _ ⟨.inl rfl, (by dsimp only; omega), (by dsimp only; omega)⟩, ?_, Only.keep hk ((Only.refl (fun k => k = w.heap.size) W).setCell _ _ rfl) (fun k hk => by omega)⟩
    rw [HL3.out]
    exact hb.set _
  case done =>
    rintro D c ys W hD hS ⟨hb, hk⟩ hdef
    have hc := hb.cell
    have hv : (33 : Int) - (ys.length : Int) = (L0 : Int) := by omega
    clear bC1 hkw hseq
    gi_wp2
    refine ⟨by simp, .inl ⟨_, _, rfl, run_takeDeferred hdef, ?_⟩⟩
    exact ⟨.int .i64 L0, by simp [results, Try.f30, go_sem], rfl, Below.trans hk (belowK_b (w := w) (Nat.le_refl _) _ D _ _ (by omega) hdef rfl rfl)⟩
  case stop =>
    rintro D c e pre W hD hS hX hdef
    exact hX.elim
end Go.Proofs.Ytopengbflnoneaa
