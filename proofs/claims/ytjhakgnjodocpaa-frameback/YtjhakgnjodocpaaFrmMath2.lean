/- All frames of bytes, wrapped again, are the bytes. -/
import Derived.Test.YtjhakgnjodocpaaFrmMath
namespace Go.Proofs.Ytjhakgnjodocpaa
open Go.RowKit

theorem frm_of {xs : List Int} (hb : Byt xs) (h : cutE xs = 0) : ((xs.drop 2).take (hd xs)).length ≤ 1024 ∧ xs = frm ((xs.drop 2).take (hd xs)) ++ xs.drop (2 + hd xs) := by
  rcases cutE_eq xs with ⟨_, h2⟩ | ⟨h1, ⟨_, h2⟩ | ⟨_, _, h2⟩ | ⟨h2, h3, _⟩⟩
  · rw [h2] at h; cases h
  · rw [h2] at h; cases h
  · rw [h2] at h; cases h
  · match xs, h1 with
    | a :: b :: t, _ =>
      have ha := hb a (by simp)
      have hbb := hb b (by simp)
      have hh : ((hd (a :: b :: t) : Nat) : Int) = a * 256 + b := by
        unfold hd
        simp [getB]
        omega
      generalize hd (a :: b :: t) = k at *
      have hl : (t.take k).length = k := by simp at h3 ⊢; omega
      rw [show List.drop 2 (a :: b :: t) = t from rfl]
      refine ⟨by omega, ?_⟩
      rw [frm_two, hl, show (a :: b :: t).drop (2 + k) = t.drop k from by rw [Nat.add_comm]; rfl, show (k : Int) / 256 % 256 = a from by omega, show (k : Int) % 256 = b from by omega]
      simp
theorem spl_facts : ∀ (n : Nat) (xs : List Int), xs.length ≤ n → Byt xs →
    xs = ((spl xs).1.map frm).flatten ++ (spl xs).2.1 ∧ (∀ ys ∈ (spl xs).1, ys.length ≤ 1024) ∧ ((spl xs).2.2 = 0 ∧ cutE (spl xs).2.1 = 20 ∨ (spl xs).2.2 = 2 ∧ cutE (spl xs).2.1 = 2) ∧ Byt (spl xs).2.1
  | 0, xs, h, hb => by
    have : cutE xs = 20 := by unfold cutE; rw [if_pos (by omega)]
    rw [spl_short this]
    exact ⟨by simp, by simp, .inl ⟨rfl, this⟩, hb⟩
  | n + 1, xs, h, hb => by
    rcases cutE_three xs with hc | hc | hc
    · have h2 := cutE_pos hc
      obtain ⟨i1, i2, i3, i4⟩ := spl_facts n (xs.drop (2 + hd xs)) (by simp; omega) (hb.drop _)
      obtain ⟨f1, f2⟩ := frm_of hb hc
      rw [spl_yes hc]
      refine ⟨?_, ?_, i3, i4⟩
      · show xs = ((_ :: _).map frm).flatten ++ _
        rw [List.map_cons, List.flatten_cons, List.append_assoc, ← i1]
        exact f2
      · intro ys hy
        rcases List.mem_cons.1 hy with rfl | hy
        · exact f1
        · exact i2 ys hy
    · rw [spl_short hc]
      exact ⟨by simp, by simp, .inl ⟨rfl, hc⟩, hb⟩
    · rw [spl_long hc]
      exact ⟨by simp, by simp, .inr ⟨rfl, hc⟩, hb⟩
/-- One frame more. -/
theorem fl_succ {yss : List (List Int)} {j : Nat} {ys : List Int} (h : yss[j]? = some ys) : ((yss.take (j + 1)).map frm).flatten = ((yss.take j).map frm).flatten ++ frm ys := by
  rw [List.take_add_one, h]
  simp
theorem fl_le (yss : List (List Int)) (j : Nat) : ((yss.take j).map frm).flatten.length ≤ (yss.map frm).flatten.length := by
  conv => rhs; rw [← List.take_append_drop j yss, List.map_append, List.flatten_append, List.length_append]
  omega
end Go.Proofs.Ytjhakgnjodocpaa
