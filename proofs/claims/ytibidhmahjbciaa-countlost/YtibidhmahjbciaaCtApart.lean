/- The plain mathematics of CountApart: in which order counts are added to plays no part; what is added to one changes no other one. Amounts are not negative. -/
import Derived.Test.YtibidhmahjbciaaCtLaw1
namespace Go.Proofs.Ytibidhmahjbciaa
open Go.ChangeShapes Go.WideShapes Go.ChangeAt Go.RowKit
set_option linter.unusedVariables false
set_option linter.unusedSimpArgs false
set_option maxRecDepth 100000

theorem more_more {a n m : Int} (hn : 0 ≤ n) (hm : 0 ≤ m) : moreC (moreC a n) m = moreC (moreC a m) n := by
  unfold moreC topC
  by_cases h1 : a + n ≤ 18446744073709551615 <;> by_cases h2 : a + m ≤ 18446744073709551615 <;> simp only [h1, h2, if_true, if_false] <;> repeat' split
  all_goals omega
theorem place_add (l : List Ct) (q r : ByteArray) (n : Int) : placeC (addC l q n) r = placeC l r := place_names r (add_names l q n)
theorem add_get (l : List Ct) (q : ByteArray) (n : Int) (i : Nat) : (addC l q n)[i]? = (l[i]?).map (fun c => if placeC l q = i then ⟨c.name, moreC c.n n⟩ else c) := by
  unfold addC
  rw [List.getElem?_modify]
  cases l[i]? with
  | none => rfl
  | some c => by_cases e : placeC l q = i <;> simp [e]
theorem add_comm (l : List Ct) (q r : ByteArray) {n m : Int} (hn : 0 ≤ n) (hm : 0 ≤ m) : addC (addC l q n) r m = addC (addC l r m) q n := by
  apply List.ext_getElem?
  intro i
  rw [add_get, add_get, add_get, add_get, place_add, place_add]
  cases l[i]? with
  | none => rfl
  | some c =>
    simp only [Option.map_some]
    by_cases e : placeC l q = i <;> by_cases f : placeC l r = i <;> simp [e, f, more_more hn hm]
def stepC (l : List Ct) (o : Opn) : List Ct := addC l o.name o.n
def foldC (l : List Ct) (P : List Opn) : List Ct := P.foldl stepC l
theorem fold_next (l : List Ct) (P : List Opn) (o : Opn) : foldC l (P ++ [o]) = addC (foldC l P) o.name o.n := by unfold foldC; rw [List.foldl_append]; rfl
theorem fold_perm {P Q : List Opn} (l : List Ct) (h : P.Perm Q) (hP : ∀ o ∈ P, inU64 o.n) : foldC l P = foldC l Q :=
  h.foldl_eq' (fun x hx y hy z => add_comm z x.name y.name (hP x hx).1 (hP y hy).1) l
def zeroOp : Opn := ⟨false, ⟨#[]⟩, 0⟩
def rot (n k i : Nat) : Nat := if i ≤ n then n - i else n + k - i
theorem rot_lt {n k i : Nat} (hn : n < k) (hi : i < k) : rot n k i < k := by unfold rot; split <;> omega
theorem rot_rem {n k i : Nat} (hn : n < k) (hi : i < k) : Int.tmod ((n : Int) + (k : Int) - (i : Int)) (k : Int) = (rot n k i : Int) := by
  rw [Int.tmod_eq_emod_of_nonneg (by omega)]
  unfold rot
  by_cases h : i ≤ n
  · rw [if_pos h]
    have e : (n : Int) + (k : Int) - (i : Int) = ((n - i : Nat) : Int) + (k : Int) := by omega
    rw [e, Int.add_emod_right, Int.emod_eq_of_lt (by omega) (by omega)]
  · rw [if_neg h, Int.emod_eq_of_lt (by omega) (by omega)]
    omega
def walkL (P : List Opn) (n : Nat) (i : Nat) : List Opn := (List.range i).map (fun j => P.getD (rot n P.length j) zeroOp)
theorem walk_next {P : List Opn} {n i : Nat} {o : Opn} (ho : P[rot n P.length i]? = some o) : walkL P n (i + 1) = walkL P n i ++ [o] := by
  unfold walkL
  rw [List.range_succ, List.map_append]
  simp [ho]
theorem walk_perm {P : List Opn} {n : Nat} (hn : n < P.length) : (walkL P n P.length).Perm P := by
  have e : walkL P n P.length = (P.take (n + 1)).reverse ++ (P.drop (n + 1)).reverse := by
    apply List.ext_getElem?
    intro i
    have hl : (P.take (n + 1)).reverse.length = n + 1 := by simp; omega
    by_cases hi : i < P.length
    · have h1 : (walkL P n P.length)[i]? = P[rot n P.length i]? := by
        unfold walkL
        rw [List.getElem?_map, List.getElem?_range hi]
        have := rot_lt hn hi
        simp [this]
      rw [h1]
      unfold rot
      by_cases h : i ≤ n
      · rw [if_pos h, List.getElem?_append_left (by rw [hl]; omega), List.getElem?_reverse (by simp; omega), List.getElem?_take]
        have : (P.take (n + 1)).length = n + 1 := by simp; omega
        rw [this, if_pos (by omega)]
        congr 1
      · rw [if_neg h, List.getElem?_append_right (by rw [hl]; omega), hl, List.getElem?_reverse (by simp; omega), List.getElem?_drop, List.length_drop]
        congr 1
        omega
    · rw [List.getElem?_eq_none (by unfold walkL; simp; omega), List.getElem?_eq_none (by simp; omega)]
  rw [e]
  have h2 := (List.reverse_perm (P.take (n + 1))).append (List.reverse_perm (P.drop (n + 1)))
  rwa [List.take_append_drop] at h2
theorem add_other {l : List Ct} {q : ByteArray} {n : Int} {i : Nat} {c d : Ct} (hc : l[i]? = some c) (hd : (addC l q n)[i]? = some d) (hn : d.name ≠ q) : d = c := by
  rw [add_get, hc] at hd
  simp only [Option.map_some] at hd
  injection hd with hd
  by_cases e : placeC l q = i
  · rw [if_pos e] at hd
    subst hd
    exact absurd (place_is (x := c) (by rw [e]; exact hc)) hn
  · rw [if_neg e] at hd
    exact hd.symm
end Go.Proofs.Ytibidhmahjbciaa
