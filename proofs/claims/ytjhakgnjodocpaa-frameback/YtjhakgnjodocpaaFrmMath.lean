/- What is wrapped is cut again, as lists of numbers. -/
import Derived.Test.YtjhakgnjodocpaaFrmAlive
namespace Go.Proofs.Ytjhakgnjodocpaa
open Go.RowKit

theorem putB_two (n : Int) : putB n 2 = [n / 256 % 256, n % 256] := by
  unfold putB putB putB
  simp
theorem frm_two (xs : List Int) : frm xs = [(xs.length : Int) / 256 % 256, (xs.length : Int) % 256] ++ xs := by unfold frm; rw [putB_two]
theorem frm_byt {xs : List Int} (h : Byt xs) : Byt (frm xs) := by
  rw [frm_two]
  intro x hx
  simp at hx
  rcases hx with rfl | rfl | hx
  · omega
  · omega
  · exact h x hx
theorem frm_hd (xs ys : List Int) (h : xs.length ≤ 1024) : hd (frm xs ++ ys) = xs.length := by
  unfold hd
  rw [frm_two]
  simp [getB]
  omega
theorem frm_cut (xs ys : List Int) (h : xs.length ≤ 1024) : cutE (frm xs ++ ys) = 0 := by
  unfold cutE
  rw [frm_hd xs ys h, if_neg (by simp [frm_length]; omega), if_neg (by omega), if_neg (by simp [frm_length])]
theorem frm_body (xs ys : List Int) : ((frm xs ++ ys).drop 2).take xs.length = xs := by
  rw [frm_two]
  simp
theorem frm_rest (xs ys : List Int) : (frm xs ++ ys).drop (2 + xs.length) = ys := by
  rw [List.drop_append_of_le_length (by rw [frm_length]; omega), List.drop_of_length_le (by rw [frm_length]; omega), List.nil_append]
/-- All but its last byte has no frame. -/
theorem frm_short (xs : List Int) (h : xs.length ≤ 1024) : cutE ((frm xs).take (1 + xs.length)) = 20 := by
  unfold cutE
  have hl : ((frm xs).take (1 + xs.length)).length = 1 + xs.length := by rw [List.length_take, frm_length]; omega
  rw [hl]
  by_cases h0 : 1 + xs.length < 2
  · rw [if_pos h0]
  · have hh : hd ((frm xs).take (1 + xs.length)) = xs.length := by
      have := frm_hd xs [] h
      unfold hd at this ⊢
      rw [List.append_nil] at this
      rw [List.take_take, show min 2 (1 + xs.length) = 2 from by omega]
      exact this
    rw [if_neg h0, hh, if_neg (by omega), if_pos (by omega)]
theorem spl_frm (xs ys : List Int) (h : xs.length ≤ 1024) : spl (frm xs ++ ys) = (xs :: (spl ys).1, (spl ys).2) := by
  rw [spl_yes (frm_cut xs ys h), frm_hd xs ys h, frm_body, frm_rest]
end Go.Proofs.Ytjhakgnjodocpaa
