/- The plain mathematics of a line's words: what the library's Split answers of a line, held against an item's first line. No condition but those that are stated. -/
import Derived.Test.YtlbpmehlfihpbaaDoorSayMath
namespace Go.Proofs.YtlbpmehlfihpbaaDoor
set_option linter.unusedVariables false
set_option linter.unusedSimpArgs false

theorem index_not {s : List UInt8} {c : UInt8} (h : c ∉ s) : Lib.index s [c] = -1 :=
  Lib.index_none (fun j hj => by
    unfold Lib.occAt
    cases hd : s.drop j with
    | nil => rfl
    | cons x l =>
      have : x ∈ s := List.mem_of_mem_drop (by rw [hd]; simp)
      have hx : c ≠ x := fun e => h (e ▸ this)
      simp [List.isPrefixOf, hx])
theorem index_at {a b : List UInt8} {c : UInt8} (h : c ∉ a) : Lib.index (a ++ c :: b) [c] = a.length :=
  Lib.index_first (by simp) (by unfold Lib.occAt; simp [List.isPrefixOf]) (fun j hj => by
    unfold Lib.occAt
    have hl : j < (a ++ c :: b).length := by simp; omega
    rw [List.drop_eq_getElem_cons hl]
    have hx : c ≠ (a ++ c :: b)[j] := fun e => h (by rw [e, List.getElem_append_left hj]; exact List.getElem_mem hj)
    simp [List.isPrefixOf, hx])
/- A text's words between blanks. -/
def wordsL (s : List UInt8) : List (List UInt8) := Lib.split s [32]
theorem words_one {s : List UInt8} (h : (32 : UInt8) ∉ s) : wordsL s = [s] := by
  unfold wordsL Lib.split
  rw [Lib.count_miss (index_not h)]
  rfl
theorem words_more {a b : List UInt8} (h : (32 : UInt8) ∉ a) : wordsL (a ++ 32 :: b) = a :: wordsL b := by
  unfold wordsL Lib.split
  have hi := index_at (b := b) h
  have hd : (a ++ 32 :: b).drop (a.length + 1) = b := by rw [← List.drop_drop]; simp
  rw [Lib.count_hit (by simp) hi, show ([32] : List UInt8).length = 1 from rfl, hd, Nat.add_comm, Lib.splitK, if_neg (by rw [hi]; simp), hi]
  simp only [Int.toNat_natCast, Nat.add_zero]
  rw [show ([32] : List UInt8).length = 1 from rfl, hd]
  simp
theorem words_ne (s : List UInt8) : wordsL s ≠ [] := by
  unfold wordsL Lib.split
  cases h : Lib.count s [32] with
  | zero => simp [Lib.splitK]
  | succ k => unfold Lib.splitK; split <;> simp
/- One word, or a word and others behind a blank. -/
theorem words_cases (s : List UInt8) : ((32 : UInt8) ∉ s ∧ wordsL s = [s]) ∨ ∃ a b, s = a ++ 32 :: b ∧ (32 : UInt8) ∉ a ∧ wordsL s = a :: wordsL b := by
  by_cases h : (pre s 32).length < s.length
  · have e := pre_split s 32 h
    refine .inr ⟨pre s 32, s.drop ((pre s 32).length + 1), e, pre_not s 32, ?_⟩
    have := words_more (b := s.drop ((pre s 32).length + 1)) (pre_not s 32)
    rwa [← e] at this
  · exact .inl ⟨pre_none h, words_one (pre_none h)⟩
theorem words_four {s a b c d : List UInt8} (h : wordsL s = [a, b, c, d]) : s = a ++ 32 :: (b ++ 32 :: (c ++ 32 :: d)) := by
  rcases words_cases s with ⟨-, e⟩ | ⟨a1, b1, e1, -, e⟩
  · rw [e] at h; simp at h
  rw [e] at h
  injection h with ha h
  rcases words_cases b1 with ⟨-, e⟩ | ⟨a2, b2, e2, -, e⟩
  · rw [e] at h; simp at h
  rw [e] at h
  injection h with hb h
  rcases words_cases b2 with ⟨-, e⟩ | ⟨a3, b3, e3, -, e⟩
  · rw [e] at h; simp at h
  rw [e] at h
  injection h with hc h
  rcases words_cases b3 with ⟨-, e⟩ | ⟨a4, b4, e4, -, e⟩
  · rw [e] at h
    injection h with hd h
    rw [e1, e2, e3, ha, hb, hc, hd]
  · rw [e] at h
    injection h with hd h
    exact absurd h (words_ne b4)
theorem words_first {k : List UInt8} {f n : Nat} (hk : kOk k = true) : wordsL ([86, 65, 76, 85, 69] ++ 32 :: (k ++ 32 :: (dec f ++ 32 :: dec n))) = [[86, 65, 76, 85, 69], k, dec f, dec n] := by
  rw [words_more (by simp), words_more (key_not hk 32 rfl), words_more (dec_not f 32 rfl), words_one (dec_not n 32 rfl)]
theorem firstL_eq (k : List UInt8) (f n : Nat) : firstL k f n = ([86, 65, 76, 85, 69] ++ 32 :: (k ++ 32 :: (dec f ++ 32 :: dec n))) ++ [13, 10] := by simp [firstL, first3]
/- What an item's first line must be. -/
theorem first_of_words {l s k a b : List UInt8} {f n : Nat} (hs : l = s ++ [13, 10]) (hw : wordsL s = [[86, 65, 76, 85, 69], k, a, b]) (hk : kOk k = true) (ha : numOf a 4294967295 = some f) (hb : numOf b 1024 = some n) : firstOf l = some (k, f, n) := by
  obtain ⟨rfl, h1⟩ := num_some.1 ha
  obtain ⟨rfl, h2⟩ := num_some.1 hb
  refine first_some ⟨?_, hk, h1, h2⟩
  rw [hs, words_four hw, firstL_eq]
theorem first_no_end {l : List UInt8} (h : Lib.hasSuffix l [13, 10] = false) : firstOf l = none := by
  refine first_none fun k f n hF => ?_
  have : Lib.hasSuffix l [13, 10] = true := by
    unfold Lib.hasSuffix
    rw [List.isSuffixOf_iff_suffix, hF.1, firstL_eq]
    exact ⟨_, rfl⟩
  rw [h] at this; cases this
theorem first_no_words {l s : List UInt8} (hs : l = s ++ [13, 10]) (h : ∀ k f n, kOk k = true → f ≤ 4294967295 → n ≤ 1024 → wordsL s ≠ [[86, 65, 76, 85, 69], k, dec f, dec n]) : firstOf l = none := by
  refine first_none fun k f n hF => ?_
  refine h k f n hF.2.1 hF.2.2.1 hF.2.2.2 ?_
  have e : s = [86, 65, 76, 85, 69] ++ 32 :: (k ++ 32 :: (dec f ++ 32 :: dec n)) := by
    have := hF.1
    rw [hs, firstL_eq] at this
    exact List.append_cancel_right this
  rw [e]
  exact words_first hF.2.1
theorem suffix_cut {l : List UInt8} (h : Lib.hasSuffix l [13, 10] = true) : l = Lib.trimSuffix l [13, 10] ++ [13, 10] := by
  unfold Lib.trimSuffix
  rw [if_pos h]
  unfold Lib.hasSuffix at h
  rw [List.isSuffixOf_iff_suffix] at h
  obtain ⟨a, rfl⟩ := h
  simp
theorem splitB_words (s : ByteArray) : (Lib.splitB ⟨#[32]⟩ 0 (Lib.countB s ⟨#[32]⟩) s).map (·.data.toList) = wordsL s.data.toList := Lib.splitB_data _ _ _ _
end Go.Proofs.YtlbpmehlfihpbaaDoor
