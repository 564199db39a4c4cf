/- The laws that what is got is just what is put, and that texts come back, walked: each answers true and turns nothing that was there. Texts have at most as many bytes as a text may have. -/
import Derived.Test.YtnkfhacmkimncaaNumRefText
namespace Go.Proofs.Ytnkfhacmkimncaa
open Go.ChangeShapes Go.WideShapes Go.ChangeAt Go.RowKit
set_option linter.unusedVariables false

theorem extract_join (s : ByteArray) (a t u : Nat) (h1 : a ≤ t) (h2 : t ≤ u) : s.extract a u = s.extract a t ++ s.extract t u := by
  apply bytes_ext
  rw [ByteArray.data_append, Array.toList_append, extract_list, extract_list, extract_list]
  rw [show u - a = (t - a) + (u - t) by omega, List.take_add, List.drop_drop, show a + (t - a) = t by omega]
theorem textE_size (t : ByteArray) : (textE t).size = wide (kindOf t.size) + t.size := by
  unfold textE
  rw [ByteArray.size_append]
  congr 1
  exact enc_length _
theorem getT_ok (s : ByteArray) (p most : Int) (T : ByteArray) (u : Nat) (h : getT s p most = (T, u, 0)) : ∃ a : Nat, p = a ∧ a ≤ u ∧ u ≤ s.size ∧ T.size ≤ s.size ∧ s.extract a u = textE T := by
  unfold getT at h
  split at h
  · rename_i h0
    generalize hg : getN s p = g at h h0
    obtain ⟨n, t, e⟩ := g
    simp only at h h0
    subst h0
    obtain ⟨a, h1, h2, h3, h4, h5⟩ := getN_ok s p n t hg
    split at h
    · simp at h
    · split at h
      · simp at h
      · rename_i hA hB
        simp only [Prod.mk.injEq] at h
        obtain ⟨rfl, rfl, _⟩ := h
        refine ⟨a, h1, by omega, by omega, by simp; omega, ?_⟩
        have hs : (s.extract t (t + n)).size = n := by simp; omega
        rw [extract_join s a t (t + n) (by omega) (by omega), h5, textE, hs]
  · rename_i h0
    simp only [Prod.mk.injEq] at h
    omega
theorem getT_put (A t B : ByteArray) (most : Int) (ht : t.size < 4611686018427387904) : getT (A ++ textE t ++ B) (A.size : Int) most = if most < (t.size : Int) then (⟨#[]⟩, 0, 4) else (t, A.size + (textE t).size, 0) := by
  have e : A ++ textE t ++ B = A ++ ⟨(enc t.size).toArray⟩ ++ (t ++ B) := by
    apply bytes_ext
    simp [textE]
  have hg := getN_put A (t ++ B) t.size ht
  rw [← e] at hg
  unfold getT
  rw [hg]
  simp only
  rw [if_pos trivial]
  by_cases h : most < (t.size : Int)
  · rw [if_pos (.inr h), if_pos h]
  · have hs := textE_size t
    have hz : (A ++ textE t ++ B).size = A.size + (textE t).size + B.size := by simp [ByteArray.size_append]
    rw [if_neg (by omega), if_neg (by omega), if_neg h]
    have hx : (A ++ textE t ++ B).extract (A.size + wide (kindOf t.size)) (A.size + wide (kindOf t.size) + t.size) = t := by
      apply bytes_ext
      rw [extract_list, Nat.add_sub_cancel_left]
      have hd : (A ++ textE t ++ B).data.toList = (A.data.toList ++ enc t.size) ++ (t.data.toList ++ B.data.toList) := by
        simp [textE]
      have hl : (A.data.toList ++ enc t.size).length = A.size + wide (kindOf t.size) := by
        rw [List.length_append, enc_length]; rfl
      rw [hd, ← hl, List.drop_left]
      exact List.take_left' rfl
    rw [hx, hs]
    simp
    omega


end Go.Proofs.Ytnkfhacmkimncaa
