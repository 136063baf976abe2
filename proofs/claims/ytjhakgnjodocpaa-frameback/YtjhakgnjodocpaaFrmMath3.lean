/- A stream of frames, cut anywhere. -/
import Derived.Test.YtjhakgnjodocpaaFrmRows2
namespace Go.Proofs.Ytjhakgnjodocpaa
open Go.RowKit

def flat (yss : List (List Int)) : List Int := (yss.map frm).flatten
theorem flat_cons (ys : List Int) (yss : List (List Int)) : flat (ys :: yss) = frm ys ++ flat yss := by simp [flat]
theorem spl_nil : spl [] = ([], [], 0) := spl_short (by unfold cutE; rw [if_pos (by decide)])
theorem spl_flat : ∀ (yss : List (List Int)), (∀ ys ∈ yss, ys.length ≤ 1024) → spl (flat yss) = (yss, [], 0)
  | [], _ => spl_nil
  | ys :: yss, h => by
    rw [flat_cons, spl_frm ys _ (h ys (by simp)), spl_flat yss (fun z hz => h z (by simp [hz]))]
theorem flat_byt : ∀ (yss : List (List Int)), (∀ ys ∈ yss, Byt ys) → Byt (flat yss)
  | [], _ => fun x hx => by simp [flat] at hx
  | ys :: yss, h => fun x hx => by
    rw [flat_cons] at hx
    rcases List.mem_append.1 hx with hx | hx
    · exact frm_byt (h ys (by simp)) x hx
    · exact flat_byt yss (fun z hz => h z (by simp [hz])) x hx
theorem flat_len : ∀ (yss : List (List Int)), (∀ ys ∈ yss, ys.length ≤ 1024) → (flat yss).length ≤ 1026 * yss.length
  | [], _ => by simp [flat]
  | ys :: yss, h => by
    have := flat_len yss (fun z hz => h z (by simp [hz]))
    have := h ys (by simp)
    rw [flat_cons, List.length_append, frm_length, List.length_cons]
    omega
/-- A frame that is not all there. -/
theorem frm_part (ys : List Int) (h : ys.length ≤ 1024) (k : Nat) (hk : k < 2 + ys.length) : cutE ((frm ys).take k) = 20 := by
  have hl : ((frm ys).take k).length = k := by rw [List.length_take, frm_length]; omega
  unfold cutE
  rw [hl]
  by_cases h2 : k < 2
  · rw [if_pos h2]
  · have hh : hd ((frm ys).take k) = ys.length := by
      have := frm_hd ys [] h
      unfold hd at this ⊢
      rw [List.append_nil] at this
      rw [List.take_take, show min 2 k = 2 from by omega]
      exact this
    rw [if_neg h2, hh, if_neg (by omega), if_pos hk]
theorem flat_cut : ∀ (yss : List (List Int)) (k : Nat), (∀ ys ∈ yss, ys.length ≤ 1024) → k ≤ (flat yss).length →
    ∃ y1 l1 y2, spl ((flat yss).take k) = (y1, l1, 0) ∧ spl (l1 ++ (flat yss).drop k) = (y2, [], 0) ∧ y1 ++ y2 = yss
  | [], k, _, _ => ⟨[], [], [], by simp [flat, spl_nil], by simp [flat, spl_nil], rfl⟩
  | ys :: yss, k, h, hk => by
    have h1 := h ys (by simp)
    by_cases hlt : k < 2 + ys.length
    · refine ⟨[], (frm ys).take k, ys :: yss, ?_, ?_, rfl⟩
      · rw [flat_cons, List.take_append_of_le_length (by rw [frm_length]; omega)]
        exact spl_short (frm_part ys h1 k hlt)
      · have : (frm ys).take k ++ (flat (ys :: yss)).drop k = flat (ys :: yss) := by
          rw [flat_cons, List.drop_append_of_le_length (by rw [frm_length]; omega), ← List.append_assoc, List.take_append_drop]
        rw [this]
        exact spl_flat _ h
    · obtain ⟨k', rfl⟩ : ∃ k', k = (frm ys).length + k' := ⟨k - (2 + ys.length), by rw [frm_length]; omega⟩
      obtain ⟨y1, l1, y2, e1, e2, e3⟩ := flat_cut yss k' (fun z hz => h z (by simp [hz])) (by rw [flat_cons, List.length_append] at hk; omega)
      refine ⟨ys :: y1, l1, y2, ?_, ?_, by rw [List.cons_append, e3]⟩
      · rw [flat_cons, List.take_length_add_append, spl_frm ys _ h1, e1]
      · rw [flat_cons, List.drop_length_add_append]
        exact e2
theorem flat_take_succ {yss : List (List Int)} {j : Nat} {ys : List Int} (h : yss[j]? = some ys) : flat (yss.take (j + 1)) = flat (yss.take j) ++ frm ys := fl_succ h
theorem flat_take_le (yss : List (List Int)) (j : Nat) : (flat (yss.take j)).length ≤ (flat yss).length := fl_le yss j
end Go.Proofs.Ytjhakgnjodocpaa
