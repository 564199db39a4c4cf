/- The plain mathematics of reading, way by way, as the reference goes. No condition but those that are stated. -/
import Derived.Test.YtlbpmehlfihpbaaDoorWordsMath
namespace Go.Proofs.YtlbpmehlfihpbaaDoor
set_option linter.unusedVariables false
set_option linter.unusedSimpArgs false

theorem st_long {t : List UInt8} (h : 300 < (pre t 10).length) : stepOf t = .err 3 := by unfold stepOf; rw [if_pos h]
theorem st_open {t : List UInt8} (h : ¬ 300 < (pre t 10).length) (he : ¬ (pre t 10).length < t.length) : stepOf t = .err 2 := by
  unfold stepOf; rw [if_neg h, if_pos (by omega)]
theorem st_line {t : List UInt8} (h : ¬ 300 < (pre t 10).length) (he : (pre t 10).length < t.length) : stepOf t = lineOf (pre t 10 ++ [10]) (t.drop ((pre t 10).length + 1)) := by
  unfold stepOf
  rw [if_neg h, if_neg (by omega)]
  congr 1
  have e := pre_split t 10 he
  have h1 : (pre t 10 ++ [10]).length = (pre t 10).length + 1 := by simp
  have h2 : t = (pre t 10 ++ [10]) ++ t.drop ((pre t 10).length + 1) := by rw [List.append_assoc]; exact e
  have h3 := congrArg (List.take ((pre t 10).length + 1)) h2
  rw [← h1, List.take_left, h1] at h3
  exact h3
theorem line_bad {l u : List UInt8} (h1 : l ≠ endL) (h2 : firstOf l = none) : lineOf l u = .err 3 := by
  unfold lineOf
  rw [if_neg h1, h2]
theorem st_300 {t : List UInt8} (h : (pre t 10).length = 300) (he : 300 < t.length) : stepOf t = .err 3 := by
  rw [st_line (by omega) (by omega)]
  refine line_bad (fun e => ?_) (first_none fun k f n hF => ?_)
  · have := congrArg List.length e
    simp [h, endL] at this
  · have := first_len hF
    simp [h] at this
theorem st_nocr {x u : List UInt8} (h : x.getLast? ≠ some 13) : lineOf (x ++ [10]) u = .err 3 := by
  have hno : ∀ y : List UInt8, x ++ [10] ≠ y ++ [13, 10] := fun y e => by
    have e2 : x ++ [10] = (y ++ [13]) ++ [10] := by rw [e]; simp
    have e3 := List.append_cancel_right e2
    rw [e3] at h
    simp at h
  refine line_bad (fun e => hno [69, 78, 68] e) (first_none fun k f n hF => ?_)
  have := hF.1
  rw [firstL_eq] at this
  exact hno _ this
theorem st_end {u : List UInt8} : lineOf ([69, 78, 68] ++ [13] ++ [10]) u = .done u := by
  unfold lineOf
  rw [if_pos (show ([69, 78, 68] ++ [13] ++ [10] : List UInt8) = endL from rfl)]
theorem st_none {y u : List UInt8} (hE : y ≠ [69, 78, 68]) (h : firstOf (y ++ [13, 10]) = none) : lineOf (y ++ [13] ++ [10]) u = .err 3 := by
  rw [show y ++ [13] ++ [10] = y ++ [13, 10] by simp]
  exact line_bad (fun e => hE (List.append_cancel_right (show y ++ [13, 10] = [69, 78, 68] ++ [13, 10] from e))) h
theorem st_some {y u k : List UInt8} {f n : Nat} (hE : y ≠ [69, 78, 68]) (h : firstOf (y ++ [13, 10]) = some (k, f, n)) : lineOf (y ++ [13] ++ [10]) u = bodyOf k f n u := by
  rw [show y ++ [13] ++ [10] = y ++ [13, 10] by simp]
  have hne : y ++ [13, 10] ≠ endL := fun e => hE (List.append_cancel_right (show y ++ [13, 10] = [69, 78, 68] ++ [13, 10] from e))
  unfold lineOf
  rw [if_neg hne, h]
theorem first_y {y k : List UInt8} {f n : Nat} (h : FirstIs (y ++ [13, 10]) k f n) : y = [86, 65, 76, 85, 69] ++ 32 :: (k ++ 32 :: (dec f ++ 32 :: dec n)) := by
  have := h.1
  rw [firstL_eq] at this
  exact List.append_cancel_right this
theorem f_none1 {y : List UInt8} (h : (32 : UInt8) ∉ y) : firstOf (y ++ [13, 10]) = none :=
  first_none fun k f n hF => h (by rw [first_y hF]; simp)
theorem f_none2 {v z : List UInt8} (hv : (32 : UInt8) ∉ v) (h : v ≠ [86, 65, 76, 85, 69]) : firstOf ((v ++ 32 :: z) ++ [13, 10]) = none :=
  first_none fun k f n hF => h (cut_inj hv (by simp) (first_y hF)).1
theorem f_none3 {z : List UInt8} (h : (32 : UInt8) ∉ z) : firstOf (([86, 65, 76, 85, 69] ++ 32 :: z) ++ [13, 10]) = none :=
  first_none fun k f n hF => by
    have := (cut_inj (by simp) (by simp) (first_y hF)).2
    exact h (by rw [this]; simp)
theorem f_none4 {k z : List UInt8} (hk : (32 : UInt8) ∉ k) (h : kOk k = false) : firstOf (([86, 65, 76, 85, 69] ++ 32 :: (k ++ 32 :: z)) ++ [13, 10]) = none :=
  first_none fun k' f n hF => by
    have e := (cut_inj (by simp) (by simp) (first_y hF)).2
    obtain ⟨rfl, -⟩ := cut_inj hk (key_not hF.2.1 32 rfl) e
    rw [hF.2.1] at h; cases h
theorem f_none5 {k z : List UInt8} (hk : (32 : UInt8) ∉ k) (h : (32 : UInt8) ∉ z) : firstOf (([86, 65, 76, 85, 69] ++ 32 :: (k ++ 32 :: z)) ++ [13, 10]) = none :=
  first_none fun k' f n hF => by
    have e := (cut_inj (by simp) (by simp) (first_y hF)).2
    obtain ⟨-, e2⟩ := cut_inj hk (key_not hF.2.1 32 rfl) e
    exact h (by rw [e2]; simp)
theorem f_none6 {k b c : List UInt8} (hk : (32 : UInt8) ∉ k) (hb : (32 : UInt8) ∉ b) (h : numOf b 4294967295 = none ∨ numOf c 1024 = none) : firstOf (([86, 65, 76, 85, 69] ++ 32 :: (k ++ 32 :: (b ++ 32 :: c))) ++ [13, 10]) = none :=
  first_none fun k' f n hF => by
    have e := (cut_inj (by simp) (by simp) (first_y hF)).2
    obtain ⟨-, e2⟩ := cut_inj hk (key_not hF.2.1 32 rfl) e
    obtain ⟨e3, e4⟩ := cut_inj hb (dec_not f 32 rfl) e2
    rcases h with h | h
    · rw [num_some.2 ⟨e3, hF.2.2.1⟩] at h; cases h
    · rw [num_some.2 ⟨e4, hF.2.2.2⟩] at h; cases h
theorem f_some {k b c : List UInt8} {f n : Nat} (hk : kOk k = true) (hb : numOf b 4294967295 = some f) (hc : numOf c 1024 = some n) : firstOf (([86, 65, 76, 85, 69] ++ 32 :: (k ++ 32 :: (b ++ 32 :: c))) ++ [13, 10]) = some (k, f, n) := by
  obtain ⟨rfl, h1⟩ := num_some.1 hb
  obtain ⟨rfl, h2⟩ := num_some.1 hc
  exact first_some ⟨(firstL_eq k f n).symm, hk, h1, h2⟩
/- What stands behind the first line. -/
theorem b_bad {k u : List UInt8} {f n : Nat} (h1 : ¬ ([13, 10] : List UInt8) <+: u.drop n) (h2 : ¬ u.drop n <+: [13, 10]) : bodyOf k f n u = .err 3 := by
  unfold bodyOf; rw [if_neg h1, if_neg h2]
theorem b_a {k u : List UInt8} {f n : Nat} {c : UInt8} (h : u[n]? = some c) (hc : c ≠ 13) : bodyOf k f n u = .err 3 := by
  have hd : ∃ r, u.drop n = c :: r := by
    have hl := (List.getElem?_eq_some_iff.1 h)
    obtain ⟨hn, e⟩ := hl
    exact ⟨u.drop (n + 1), by rw [List.drop_eq_getElem_cons hn, e]⟩
  obtain ⟨r, hd⟩ := hd
  refine b_bad (fun ⟨q, hq⟩ => ?_) (fun ⟨q, hq⟩ => ?_)
  · rw [hd] at hq; simp at hq; exact hc hq.1.symm
  · rw [hd] at hq; simp at hq; exact hc hq.1
theorem b_b {k u : List UInt8} {f n : Nat} {c : UInt8} (h : u[n + 1]? = some c) (hc : c ≠ 10) : bodyOf k f n u = .err 3 := by
  obtain ⟨hn, e⟩ := List.getElem?_eq_some_iff.1 h
  have hd : u.drop n = u[n]'(by omega) :: c :: u.drop (n + 2) := by
    rw [List.drop_eq_getElem_cons (by omega : n < u.length), List.drop_eq_getElem_cons hn, e]
  refine b_bad (fun ⟨q, hq⟩ => ?_) (fun ⟨q, hq⟩ => ?_)
  · rw [hd] at hq; simp at hq; exact hc hq.2.1.symm
  · rw [hd] at hq; simp at hq; exact hc hq.2.1
theorem b_short {k u : List UInt8} {f n : Nat} (h : u.length < n + 2) (h0 : ∀ c, u[n]? = some c → c = 13) : bodyOf k f n u = .err 2 := by
  unfold bodyOf
  rw [if_neg, if_pos]
  · by_cases hn : n < u.length
    · have e := h0 u[n] (List.getElem?_eq_getElem hn)
      refine ⟨[10], ?_⟩
      rw [List.drop_eq_getElem_cons hn, e, List.drop_of_length_le (by omega)]
      rfl
    · rw [List.drop_of_length_le (by omega)]
      exact List.nil_prefix
  · rintro ⟨q, hq⟩
    have := congrArg List.length hq
    simp at this
    omega
theorem b_item {k u : List UInt8} {f n : Nat} (h : n + 2 ≤ u.length) (h0 : ∀ c, u[n]? = some c → c = 13) (h1 : ∀ c, u[n + 1]? = some c → c = 10) : bodyOf k f n u = .item k f (u.take n) (u.drop (n + 2)) := by
  unfold bodyOf
  rw [if_pos]
  have e0 := h0 u[n] (List.getElem?_eq_getElem (by omega))
  have e1 := h1 u[n + 1] (List.getElem?_eq_getElem (by omega))
  refine ⟨u.drop (n + 2), ?_⟩
  rw [List.drop_eq_getElem_cons (by omega : n < u.length), List.drop_eq_getElem_cons (by omega : n + 1 < u.length), e0, e1]
  rfl
end Go.Proofs.YtlbpmehlfihpbaaDoor
