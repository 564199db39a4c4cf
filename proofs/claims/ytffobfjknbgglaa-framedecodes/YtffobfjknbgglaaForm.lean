/- Plain mathematics of frames: how one is laid as a list of bytes, why a list of bytes is none, that both ways fit together, and that one byte turned is told. No condition but that a body has at most 2^20 bytes. -/
import Derived.Test.YtffobfjknbgglaaMath
namespace Go.Proofs.Ytffobfjknbgglaa

def be4 (n : Nat) : List UInt8 := [UInt8.ofNat (n / 16777216), UInt8.ofNat (n / 65536), UInt8.ofNat (n / 256), UInt8.ofNat n]
def val (l : List UInt8) : Nat := l.foldl (fun a c => a * 256 + c.toNat) 0
abbrev fit (k f t : UInt8) : Prop := 1 ≤ k.toNat ∧ k.toNat ≤ 14 ∧ f.toNat < 64 ∧ t.toNat < 64
def front (k f t : UInt8) (b : List UInt8) : List UInt8 := [1, k, f, t] ++ be4 b.length ++ b
def lay (k f t : UInt8) (b : List UInt8) : List UInt8 := front k f t b ++ be4 (more 0 (front k f t b))
def word4 (l : List UInt8) (p : Nat) : Nat := val ((l.drop p).take 4)
def at_ (l : List UInt8) (p : Nat) : UInt8 := l.getD p 0
def why (l : List UInt8) : Nat :=
  if l.length < 12 then 2
  else if ¬ (at_ l 0 = 1 ∧ fit (at_ l 1) (at_ l 2) (at_ l 3)) then 3
  else if 1048576 < word4 l 4 then 4
  else if l.length < 12 + word4 l 4 then 2
  else if 12 + word4 l 4 < l.length then 3
  else if word4 l (8 + word4 l 4) ≠ more 0 (l.take (8 + word4 l 4)) then 5
  else 0

theorem ofNat_toNat (R : Nat) : (UInt8.ofNat R).toNat = R % 256 := by simp
theorem be4_length (n : Nat) : (be4 n).length = 4 := rfl
theorem val_four (a b c d : UInt8) : val [a, b, c, d] = ((a.toNat * 256 + b.toNat) * 256 + c.toNat) * 256 + d.toNat := by
  simp [val]
theorem val_be4 (n : Nat) (h : n < 4294967296) : val (be4 n) = n := by
  unfold be4
  rw [val_four, ofNat_toNat, ofNat_toNat, ofNat_toNat, ofNat_toNat]
  omega
theorem be4_inj {m n : Nat} (hm : m < 4294967296) (hn : n < 4294967296) (h : be4 m = be4 n) : m = n := by
  rw [← val_be4 m hm, ← val_be4 n hn, h]
theorem be4_four (a b c d : UInt8) : be4 (val [a, b, c, d]) = [a, b, c, d] := by
  have ha := a.toNat_lt
  have hb := b.toNat_lt
  have hc := c.toNat_lt
  have hd := d.toNat_lt
  unfold be4
  rw [val_four]
  congr 1
  · apply UInt8.toNat_inj.1; rw [ofNat_toNat]; omega
  congr 1
  · apply UInt8.toNat_inj.1; rw [ofNat_toNat]; omega
  congr 1
  · apply UInt8.toNat_inj.1; rw [ofNat_toNat]; omega
  congr 1
  apply UInt8.toNat_inj.1; rw [ofNat_toNat]; omega
theorem four_cases (l : List UInt8) (h : l.length = 4) : ∃ a b c d, l = [a, b, c, d] := by
  match l, h with
  | [a, b, c, d], _ => exact ⟨a, b, c, d, rfl⟩
theorem be4_val (l : List UInt8) (h : l.length = 4) : be4 (val l) = l := by
  obtain ⟨a, b, c, d, rfl⟩ := four_cases l h
  exact be4_four a b c d
theorem val_snoc (l : List UInt8) (c : UInt8) : val (l ++ [c]) = val l * 256 + c.toNat := by
  unfold val; rw [List.foldl_append]; rfl
theorem val_le3 (l : List UInt8) (h : l.length ≤ 3) : val l < 16777216 := by
  match l, h with
  | [], _ => simp [val]
  | [a], _ => have := a.toNat_lt; simp [val]; omega
  | [a, b], _ => have := a.toNat_lt; have := b.toNat_lt; simp [val]; omega
  | [a, b, c], _ => have := a.toNat_lt; have := b.toNat_lt; have := c.toNat_lt; simp [val]; omega
theorem val_le4 (l : List UInt8) (h : l.length ≤ 4) : val l < 4294967296 := by
  by_cases h4 : l.length = 4
  · obtain ⟨a, b, c, d, rfl⟩ := four_cases l h4
    have := a.toNat_lt; have := b.toNat_lt; have := c.toNat_lt; have := d.toNat_lt
    rw [val_four]; omega
  · have := val_le3 l (by omega); omega
theorem word4_lt (l : List UInt8) (p : Nat) : word4 l p < 4294967296 := val_le4 _ (by simp; omega)

theorem front_length (k f t : UInt8) (b : List UInt8) : (front k f t b).length = 8 + b.length := by
  simp [front, be4_length]; omega
theorem lay_length (k f t : UInt8) (b : List UInt8) : (lay k f t b).length = 12 + b.length := by
  simp [lay, front_length, be4_length]; omega
theorem more_small (l : List UInt8) : more 0 l < 4294967296 := more_lt 0 (by omega) l
theorem more_set (l : List UInt8) (p : Nat) (hp : p < l.length) (c : UInt8) (hc : c ≠ l[p]) : more 0 (l.set p c) ≠ more 0 l := by
  rw [List.set_eq_take_append_cons_drop, if_pos hp]
  have e : l = l.take p ++ l[p] :: l.drop (p + 1) := by rw [List.getElem_cons_drop, List.take_append_drop]
  intro h
  exact more_one (x := 0) (by omega) (l.take p) (l.drop (p + 1)) hc (h.trans (congrArg _ e))

theorem eight_cases (l : List UInt8) (h : 8 ≤ l.length) : ∃ a b c d e f g i r, l = a :: b :: c :: d :: e :: f :: g :: i :: r := by
  match l, h with
  | a :: b :: c :: d :: e :: f :: g :: i :: r, _ => exact ⟨a, b, c, d, e, f, g, i, r, rfl⟩
/- What a list of bytes is made of, if its first byte is the version and it has as many bytes as it says. -/
theorem parts (l : List UInt8) (h0 : at_ l 0 = 1) (hn : l.length = 12 + word4 l 4) :
    front (at_ l 1) (at_ l 2) (at_ l 3) ((l.drop 8).take (word4 l 4)) = l.take (8 + word4 l 4) ∧ l = l.take (8 + word4 l 4) ++ be4 (word4 l (8 + word4 l 4)) := by
  obtain ⟨a0, a1, a2, a3, a4, a5, a6, a7, r, rfl⟩ := eight_cases l (by omega)
  have e4 : word4 (a0 :: a1 :: a2 :: a3 :: a4 :: a5 :: a6 :: a7 :: r) 4 = val [a4, a5, a6, a7] := rfl
  rw [e4] at hn ⊢
  have hb : be4 (val [a4, a5, a6, a7]) = [a4, a5, a6, a7] := be4_four _ _ _ _
  generalize val [a4, a5, a6, a7] = n at *
  have hr : r.length = n + 4 := by simp at hn; omega
  have h0' : a0 = 1 := h0
  subst h0'
  have e8 : word4 (1 :: a1 :: a2 :: a3 :: a4 :: a5 :: a6 :: a7 :: r) (8 + n) = val (r.drop n) := by
    unfold word4
    rw [show 8 + n = n + 8 by omega]
    simp only [List.drop_succ_cons]
    rw [List.take_of_length_le (by simp; omega)]
  have et : (1 :: a1 :: a2 :: a3 :: a4 :: a5 :: a6 :: a7 :: r).take (8 + n) = 1 :: a1 :: a2 :: a3 :: a4 :: a5 :: a6 :: a7 :: r.take n := by
    rw [show 8 + n = n + 8 by omega]; rfl
  have ed : ((1 :: a1 :: a2 :: a3 :: a4 :: a5 :: a6 :: a7 :: r).drop 8).take n = r.take n := rfl
  have el : (r.take n).length = n := by simp; omega
  refine ⟨?_, ?_⟩
  · rw [et, ed, front, el, hb]; rfl
  · rw [e8, et, be4_val _ (by simp; omega)]
    simp only [List.cons_append, List.take_append_drop]
theorem body_take (l : List UInt8) (hn : l.length = 12 + word4 l 4) : (l.drop 8).take (l.length - 12) = (l.drop 8).take (word4 l 4) := by
  rw [hn]; congr 1; omega
theorem body_length (l : List UInt8) (hn : l.length = 12 + word4 l 4) : ((l.drop 8).take (word4 l 4)).length = word4 l 4 := by
  simp; omega
/- The last test, in the reference's form. -/
theorem last_test (l : List UInt8) (h0 : at_ l 0 = 1) (hn : l.length = 12 + word4 l 4) :
    lay (at_ l 1) (at_ l 2) (at_ l 3) ((l.drop 8).take (word4 l 4)) = l ↔ word4 l (8 + word4 l 4) = more 0 (l.take (8 + word4 l 4)) := by
  obtain ⟨h1, h2⟩ := parts l h0 hn
  rw [lay, h1]
  constructor
  · intro h
    have := h.trans h2
    exact (be4_inj (more_small _) (word4_lt _ _) (List.append_cancel_left this)).symm
  · intro h
    rw [← h]; exact h2.symm
theorem why_zero (l : List UInt8) (h : why l = 0) :
    12 ≤ l.length ∧ at_ l 0 = 1 ∧ fit (at_ l 1) (at_ l 2) (at_ l 3) ∧ word4 l 4 ≤ 1048576 ∧ l.length = 12 + word4 l 4 ∧ lay (at_ l 1) (at_ l 2) (at_ l 3) ((l.drop 8).take (word4 l 4)) = l := by
  unfold why at h
  split at h
  · omega
  rename_i h1
  split at h
  · omega
  rename_i h2
  split at h
  · omega
  rename_i h3
  split at h
  · omega
  rename_i h4
  split at h
  · omega
  rename_i h5
  split at h
  · omega
  rename_i h6
  have h2 := Decidable.not_not.1 h2
  have hn : l.length = 12 + word4 l 4 := by omega
  exact ⟨by omega, h2.1, h2.2, by omega, hn, (last_test l h2.1 hn).2 (Decidable.not_not.1 h6)⟩
theorem why_pre (k f t : UInt8) (n : Nat) (r : List UInt8) (hf : fit k f t) (hn : n ≤ 1048576) :
    why ([1, k, f, t] ++ be4 n ++ r) = if r.length < 4 then 2 else if r.length < 4 + n then 2 else if 4 + n < r.length then 3 else if val ((r.drop n).take 4) ≠ more 0 ([1, k, f, t] ++ be4 n ++ r.take n) then 5 else 0 := by
  have e4 : word4 ([1, k, f, t] ++ be4 n ++ r) 4 = n := by
    show val (be4 n) = n
    exact val_be4 n (by omega)
  have el : ([1, k, f, t] ++ be4 n ++ r).length = 8 + r.length := by simp [be4_length]; omega
  have e8 : word4 ([1, k, f, t] ++ be4 n ++ r) (8 + n) = val ((r.drop n).take 4) := by
    unfold word4
    rw [show 8 + n = n + 8 by omega]
    rfl
  have et : ([1, k, f, t] ++ be4 n ++ r).take (8 + n) = [1, k, f, t] ++ be4 n ++ r.take n := by
    rw [show 8 + n = n + 8 by omega]; rfl
  unfold why
  rw [e4, el, e8, et]
  by_cases h1 : r.length < 4
  · rw [if_pos (by omega), if_pos h1]
  rw [if_neg (by omega), if_neg h1, if_neg (Decidable.not_not.2 ⟨rfl, hf⟩), if_neg (by omega)]
  by_cases h2 : r.length < 4 + n
  · rw [if_pos (by omega), if_pos h2]
  rw [if_neg (by omega), if_neg h2]
  by_cases h3 : 4 + n < r.length
  · rw [if_pos (by omega), if_pos h3]
  rw [if_neg (by omega), if_neg h3]
theorem why_lay (k f t : UInt8) (b : List UInt8) (hf : fit k f t) (hb : b.length ≤ 1048576) : why (lay k f t b) = 0 := by
  have e : lay k f t b = [1, k, f, t] ++ be4 b.length ++ (b ++ be4 (more 0 (front k f t b))) := by
    rw [lay, front, List.append_assoc]
  rw [e, why_pre k f t b.length _ hf hb]
  have hl : (b ++ be4 (more 0 (front k f t b))).length = b.length + 4 := by rw [List.length_append, be4_length]
  rw [if_neg (by omega), if_neg (by omega), if_neg (by omega), List.drop_left, List.take_left]
  rw [List.take_of_length_le (by rw [be4_length]; exact Nat.le_refl _), val_be4 _ (more_small _)]
  rw [if_neg]
  intro h
  exact h rfl
theorem why_two (k f t : UInt8) (b m : List UInt8) (hf : fit k f t) (hb : b.length ≤ 1048576) (hm : 0 < m.length) : why (lay k f t b ++ m) = 3 := by
  have e : lay k f t b ++ m = [1, k, f, t] ++ be4 b.length ++ (b ++ be4 (more 0 (front k f t b)) ++ m) := by
    rw [lay, front]; simp only [List.append_assoc]
  rw [e, why_pre k f t b.length _ hf hb]
  have hl : (b ++ be4 (more 0 (front k f t b)) ++ m).length = b.length + 4 + m.length := by rw [List.length_append, List.length_append, be4_length]
  rw [if_neg (by omega), if_neg (by omega), if_pos (by omega)]
theorem why_take (k f t : UInt8) (b : List UInt8) (hf : fit k f t) (hb : b.length ≤ 1048576) (m : Nat) (hm : m < (lay k f t b).length) : why ((lay k f t b).take m) = 2 := by
  have hll := lay_length k f t b
  by_cases h8 : m < 8
  · unfold why
    rw [if_pos (by simp; omega)]
  have e : (lay k f t b).take m = [1, k, f, t] ++ be4 b.length ++ (b ++ be4 (more 0 (front k f t b))).take (m - 8) := by
    rw [lay, front]
    rw [List.append_assoc ([1, k, f, t] ++ be4 b.length), List.take_append, List.take_of_length_le (by simp [be4_length]; omega)]
    congr 1
  rw [e, why_pre k f t b.length _ hf hb]
  have hl : ((b ++ be4 (more 0 (front k f t b))).take (m - 8)).length = m - 8 := by rw [List.length_take, List.length_append, be4_length]; omega
  rw [hl]
  by_cases h1 : m - 8 < 4
  · rw [if_pos h1]
  · rw [if_neg h1, if_pos (by omega)]
theorem lay_parts (k f t : UInt8) (b : List UInt8) : at_ (lay k f t b) 1 = k ∧ at_ (lay k f t b) 2 = f ∧ at_ (lay k f t b) 3 = t ∧ ((lay k f t b).drop 8).take ((lay k f t b).length - 12) = b := by
  refine ⟨rfl, rfl, rfl, ?_⟩
  rw [lay_length, lay, front]
  have : ([1, k, f, t] ++ be4 b.length ++ b ++ be4 (more 0 ([1, k, f, t] ++ be4 b.length ++ b))).drop 8 = b ++ be4 (more 0 ([1, k, f, t] ++ be4 b.length ++ b)) := rfl
  rw [this, show 12 + b.length - 12 = b.length by omega, List.take_left]
theorem why_set (k f t : UInt8) (b : List UInt8) (p : Nat) (hp : p < (lay k f t b).length) (c : UInt8) (hc : c ≠ (lay k f t b)[p]) : why ((lay k f t b).set p c) ≠ 0 := by
  intro h
  obtain ⟨_, _, _, _, hn, he⟩ := why_zero _ h
  generalize hk : at_ ((lay k f t b).set p c) 1 = k' at *
  generalize hf : at_ ((lay k f t b).set p c) 2 = f' at *
  generalize ht : at_ ((lay k f t b).set p c) 3 = t' at *
  generalize hb : List.take (word4 ((lay k f t b).set p c) 4) (List.drop 8 ((lay k f t b).set p c)) = b' at *
  clear hk hf ht
  have hbl : b'.length = b.length := by
    have := congrArg List.length he
    rw [lay_length, List.length_set, lay_length] at this
    omega
  have hF := front_length k f t b
  have hF' := front_length k' f' t' b'
  by_cases hp8 : p < (front k f t b).length
  · have e : (lay k f t b).set p c = (front k f t b).set p c ++ be4 (more 0 (front k f t b)) := by
      rw [lay, List.set_append_left _ _ hp8]
    rw [e, lay] at he
    obtain ⟨e1, e2⟩ := List.append_inj he (by rw [List.length_set]; omega)
    have e3 := be4_inj (more_small _) (more_small _) e2
    rw [e1] at e3
    refine more_set _ p hp8 c ?_ e3
    intro h2
    apply hc
    rw [h2]
    simp only [lay]
    rw [List.getElem_append_left hp8]
  · have e : (lay k f t b).set p c = front k f t b ++ (be4 (more 0 (front k f t b))).set (p - (front k f t b).length) c := by
      rw [lay, List.set_append_right _ _ (by omega)]
    have e0 := e
    rw [e, lay] at he
    obtain ⟨e1, e2⟩ := List.append_inj he (by omega)
    rw [e1] at e2
    rw [← e2] at e0
    have : ((lay k f t b).set p c)[p]'(by rw [List.length_set]; exact hp) = (lay k f t b)[p] := by
      simp only [e0]; rfl
    rw [List.getElem_set_self] at this
    exact hc this
end Go.Proofs.Ytffobfjknbgglaa
