/- Whole members that are laid into a row of one's own, of any size; what two copies, one behind the other, leave in a block. -/
import Derived.Test.YtjmldnbepajnoaaRGCut
namespace Go.Proofs.YtjmldnbepajnoaaR
open Go.ChangeShapes Go.WideShapes Go.ChangeAt Go.RowKit
set_option linter.unusedVariables false
set_option linter.unusedSimpArgs false

/- What is laid over a list from a place on. -/
def ov (L : List Value) (o : Nat) (vs : List Value) : List Value := L.take o ++ vs ++ L.drop (o + vs.length)
theorem over_ov (cur : Array Value) (o : Nat) (vs : List Value) : (over cur o vs).toList = ov cur.toList o vs := rfl
theorem ov_take {L vs : List Value} {o : Nat} (h : o ≤ L.length) : (ov L o vs).take (o + vs.length) = L.take o ++ vs := by
  unfold ov
  exact List.take_left' (by rw [List.length_append, List.length_take, Nat.min_eq_left h])
theorem ov_low {L vs : List Value} {o : Nat} (h : o ≤ L.length) : (ov L o vs).take o = L.take o := by
  unfold ov
  rw [List.append_assoc]
  exact List.take_left' (by rw [List.length_take, Nat.min_eq_left h])
theorem ov_high {L vs : List Value} {o : Nat} (h : o ≤ L.length) : (ov L o vs).drop (o + vs.length) = L.drop (o + vs.length) := by
  unfold ov
  exact List.drop_left' (by rw [List.length_append, List.length_take, Nat.min_eq_left h])
theorem ov_rest {L vs : List Value} {o : Nat} (h : o ≤ L.length) : (ov L o vs).drop o = vs ++ L.drop (o + vs.length) := by
  unfold ov
  rw [List.append_assoc]
  exact List.drop_left' (by rw [List.length_take, Nat.min_eq_left h])
theorem ov_len {L vs : List Value} {o : Nat} (h : o + vs.length ≤ L.length) : (ov L o vs).length = L.length := by
  unfold ov
  rw [List.length_append, List.length_append, List.length_take, List.length_drop]
  omega
theorem ov_step {L : List Value} {o : Nat} {v : Value} {vs : List Value} (h : o + 1 + vs.length ≤ L.length) : ov (L.set o v) (o + 1) vs = ov L o (v :: vs) := by
  have e1 : (L.set o v).take (o + 1) = L.take o ++ [v] := by
    have hg : (L.set o v)[o]? = some v := by rw [List.getElem?_set, if_pos rfl, if_pos (by omega)]
    rw [List.take_add_one, hg, List.take_set_of_le (Nat.le_refl _)]
    rfl
  have e2 : (L.set o v).drop (o + 1 + vs.length) = L.drop (o + (v :: vs).length) := by
    rw [List.drop_set_of_lt (by omega), List.length_cons, show o + 1 + vs.length = o + (vs.length + 1) by omega]
  unfold ov
  rw [e1, e2]
  simp
theorem at_setCells {G T : Nat} : ∀ (vs : List Value) (o : Nat) (w : World) (cur : Array Value), At w G cur T → o + vs.length ≤ cur.size → At (w.setCells G o vs) G (over cur o vs) T
  | [], o, w, cur, h, _ => by
    have e : over cur o [] = cur := by
      apply Array.toList_inj.1
      rw [over_ov]
      unfold ov
      simp
    rw [e, World.setCells]
    exact h
  | v :: vs, o, w, cur, h, hl => by
    rw [List.length_cons] at hl
    rw [World.setCells]
    have ih := at_setCells vs (o + 1) _ _ (at_set h o v) (by rw [Array.size_setIfInBounds]; omega)
    have e : over (cur.setIfInBounds o v) (o + 1) vs = over cur o (v :: vs) := by
      apply Array.toList_inj.1
      rw [over_ov, over_ov, Array.toList_setIfInBounds]
      exact ov_step (by have h9 : cur.toList.length = cur.size := Array.length_toList; omega)
    rw [← e]
    exact ih
theorem turn_setCells {G : Nat} {u : World} : ∀ (vs : List Value) (o : Nat) (w : World), Turn G u w → Turn G u (w.setCells G o vs)
  | [], o, w, h => h
  | v :: vs, o, w, h => by
    rw [World.setCells]
    exact turn_setCells vs (o + 1) _ (turn_set h o v)
section
variable {α : Type} {enc : α → List Value} {c : Nat} {e : TypeId} {w w' : World} {B : Nat} {v x : Value} {xs ys : List α}
theorem flatE_drop (he : Enc enc c) (xs : List α) (k : Nat) : (flatE enc xs).drop (k * c) = flatE enc (xs.drop k) := by
  by_cases hk : k ≤ xs.length
  · have e1 : flatE enc xs = flatE enc (xs.take k) ++ flatE enc (xs.drop k) := by rw [← flatE_app, List.take_append_drop]
    have e2 : (flatE enc (xs.take k)).length = k * c := by rw [flatE_len he, List.length_take, Nat.min_eq_left hk]
    rw [e1, ← e2, List.drop_left]
  · have e3 : xs.drop k = [] := List.drop_of_length_le (by omega)
    rw [e3, List.drop_of_length_le (by rw [flatE_len he]; exact Nat.mul_le_mul_right _ (by omega))]
    rfl
theorem og_setM {G n cap : Nat} (he : Enc enc c) (h : Og enc c e w B (.slice (some ⟨G, 0, none⟩) n cap) xs) {k : Nat} (hk : k < n) (y : α) :
    Og enc c e (w.setCells G (k * c) (enc y)) B (.slice (some ⟨G, 0, none⟩) n cap) (xs.set k y) := by
  obtain ⟨cur, hg, hB, hl, hn, hm, hs, ht⟩ := og_whole h
  have hc1 : (k + 1) * c ≤ n * c := Nat.mul_le_mul_right _ hk
  have hc2 : n * c ≤ cap * c := Nat.mul_le_mul_right _ hn
  rw [Nat.add_mul, Nat.one_mul] at hc1
  have hA := at_setCells (enc y) (k * c) w cur hg (by rw [he.len, hs]; omega)
  have hfin : (ov cur.toList (k * c) (enc y)).take (n * c) = flatE enc (xs.set k y) := by
    have hlen : cur.toList.length = cap * c := Array.length_toList.trans hs
    have e0 : n * c = (k * c + (enc y).length) + (n * c - (k * c + c)) := by rw [he.len]; omega
    rw [e0, List.take_add, ov_take (by omega), ov_high (by omega), he.len]
    have e1 : cur.toList.take (k * c) = flatE enc (xs.take k) := by rw [← flatE_take he, ← ht, List.take_take, Nat.min_eq_left (by omega)]
    have e2 : (cur.toList.drop (k * c + c)).take (n * c - (k * c + c)) = flatE enc (xs.drop (k + 1)) := by
      rw [← flatE_drop he, ← ht, Nat.add_mul, Nat.one_mul, List.drop_take]
    rw [e1, e2, List.set_eq_take_append_cons_drop, if_pos (by omega), flatE_app, flatE_cons, List.append_assoc]
  have := og_of (xs := xs.set k y) he hA hB (by rw [List.length_set]; omega) hm (by rw [over_size (by rw [he.len, hs]; omega), hs]) (by rw [List.length_set, hl, over_ov]; exact hfin)
  rw [List.length_set, hl] at this
  exact this
/- Two copies: the rest first, then the new one; or the new one first. -/
theorem over_in {cur : Array Value} {l : List α} {q : α} {cap i : Nat} (he : Enc enc c) (hs : cur.size = cap * c) (hi : i ≤ l.length) (hc : l.length + 1 ≤ cap) (ht : cur.toList.take (l.length * c) = flatE enc l) :
    (over (over cur ((i + 1) * c) (flatE enc (l.drop i))) (i * c) (enc q)).size = cap * c ∧ (over (over cur ((i + 1) * c) (flatE enc (l.drop i))) (i * c) (enc q)).toList.take ((l.length + 1) * c) = flatE enc (l.take i ++ q :: l.drop i) := by
  have hlen : cur.toList.length = cap * c := Array.length_toList.trans hs
  have hD : (flatE enc (l.drop i)).length = (l.length - i) * c := by rw [flatE_len he, List.length_drop]
  have m1 : i * c ≤ l.length * c := Nat.mul_le_mul_right _ hi
  have m2 : (i + 1) * c = i * c + c := by rw [Nat.add_mul, Nat.one_mul]
  have m3 : (l.length + 1) * c = l.length * c + c := by rw [Nat.add_mul, Nat.one_mul]
  have m4 : (l.length + 1) * c ≤ cap * c := Nat.mul_le_mul_right _ hc
  have m5 : (l.length - i) * c = l.length * c - i * c := Nat.sub_mul _ _ _
  have hq := he.len q
  have s1 : (over cur ((i + 1) * c) (flatE enc (l.drop i))).size = cap * c := by rw [over_size (by omega), hs]
  refine ⟨by rw [over_size (by omega), s1], ?_⟩
  rw [over_ov, over_ov]
  have l1 : (ov cur.toList ((i + 1) * c) (flatE enc (l.drop i))).length = cap * c := by rw [ov_len (by omega), hlen]
  have e0 : (l.length + 1) * c = (i * c + (enc q).length) + (flatE enc (l.drop i)).length := by omega
  have e1 : (ov cur.toList ((i + 1) * c) (flatE enc (l.drop i))).take (i * c) = flatE enc (l.take i) := by
    have := congrArg (List.take (i * c)) (ov_low (L := cur.toList) (o := (i + 1) * c) (vs := flatE enc (l.drop i)) (by omega))
    rw [List.take_take, List.take_take, Nat.min_eq_left (by omega)] at this
    rw [this, ← flatE_take he, ← ht, List.take_take, Nat.min_eq_left m1]
  have e2 : (ov cur.toList ((i + 1) * c) (flatE enc (l.drop i))).drop (i * c + (enc q).length) = flatE enc (l.drop i) ++ cur.toList.drop ((i + 1) * c + (flatE enc (l.drop i)).length) := by
    rw [show i * c + (enc q).length = (i + 1) * c by omega]
    exact ov_rest (by omega)
  rw [e0, List.take_add, ov_take (by omega), ov_high (by omega), e1, e2, List.take_left, flatE_app, flatE_cons, List.append_assoc]
theorem over_grow {row : Array Value} {l : List α} {q : α} {cap i : Nat} (he : Enc enc c) (hs : row.size = cap * c) (hi : i ≤ l.length) (hc : l.length + 1 ≤ cap) (ht : row.toList.take (i * c) = flatE enc (l.take i)) :
    (over (over row (i * c) (enc q)) ((i + 1) * c) (flatE enc (l.drop i))).size = cap * c ∧ (over (over row (i * c) (enc q)) ((i + 1) * c) (flatE enc (l.drop i))).toList.take ((l.length + 1) * c) = flatE enc (l.take i ++ q :: l.drop i) := by
  have hlen : row.toList.length = cap * c := Array.length_toList.trans hs
  have hD : (flatE enc (l.drop i)).length = (l.length - i) * c := by rw [flatE_len he, List.length_drop]
  have m1 : i * c ≤ l.length * c := Nat.mul_le_mul_right _ hi
  have m2 : (i + 1) * c = i * c + c := by rw [Nat.add_mul, Nat.one_mul]
  have m3 : (l.length + 1) * c = l.length * c + c := by rw [Nat.add_mul, Nat.one_mul]
  have m4 : (l.length + 1) * c ≤ cap * c := Nat.mul_le_mul_right _ hc
  have m5 : (l.length - i) * c = l.length * c - i * c := Nat.sub_mul _ _ _
  have hq := he.len q
  have s1 : (over row (i * c) (enc q)).size = cap * c := by rw [over_size (by omega), hs]
  refine ⟨by rw [over_size (by omega), s1], ?_⟩
  rw [over_ov, over_ov]
  have l1 : (ov row.toList (i * c) (enc q)).length = cap * c := by rw [ov_len (by omega), hlen]
  have e0 : (l.length + 1) * c = (i + 1) * c + (flatE enc (l.drop i)).length := by omega
  have e1 : (i + 1) * c = i * c + (enc q).length := by omega
  rw [e0, ov_take (by omega), e1, ov_take (by omega), ht, flatE_app, flatE_cons, List.append_assoc]
end
end Go.Proofs.YtjmldnbepajnoaaR
