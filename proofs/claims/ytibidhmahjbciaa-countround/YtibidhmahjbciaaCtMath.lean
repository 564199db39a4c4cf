/- The plain mathematics of counts: names and their numbers, which names may be, what is added, what is told. No condition. -/
import Derived.Test.YtibidhmahjbciaaGObj
namespace Go.Proofs.Ytibidhmahjbciaa
open Go.ChangeShapes Go.WideShapes Go.ChangeAt Go.RowKit
set_option linter.unusedVariables false
set_option linter.unusedSimpArgs false
set_option maxRecDepth 100000

structure Ct where
  name : ByteArray
  n : Int
def topC : Int := 18446744073709551615
def CtOk (c : Ct) : Prop := 0 ≤ c.n ∧ c.n ≤ topC
def CtsOk (l : List Ct) : Prop := ∀ c ∈ l, CtOk c
theorem bytes_ext (s t : ByteArray) (h : s.data.toList = t.data.toList) : s = t := by
  cases s; cases t; simp at h; simpa using h
def sameT (a b : ByteArray) : Bool := a.toList == b.toList
theorem sameT_iff (a b : ByteArray) : sameT a b = true ↔ a = b := by
  unfold sameT
  rw [ByteArray.toList_eq, ByteArray.toList_eq, beq_iff_eq]
  exact ⟨fun h => bytes_ext _ _ h, fun h => by rw [h]⟩
theorem sameT_refl (a : ByteArray) : sameT a a = true := (sameT_iff a a).2 rfl
theorem sameT_comm (a b : ByteArray) : sameT a b = sameT b a := by
  cases h : sameT b a with
  | true => rw [(sameT_iff b a).1 h]; exact sameT_refl a
  | false =>
    cases g : sameT a b with
    | false => rfl
    | true => rw [(sameT_iff a b).1 g, sameT_refl] at h; cases h
/- Where a name stands: behind the end, where it stands nowhere. -/
def placeC : List Ct → ByteArray → Nat
  | [], _ => 0
  | c :: l, q => if sameT c.name q = true then 0 else placeC l q + 1
theorem place_le : ∀ (l : List Ct) (q : ByteArray), placeC l q ≤ l.length
  | [], _ => Nat.le_refl _
  | c :: l, q => by
    unfold placeC
    split
    · exact Nat.zero_le _
    · have := place_le l q
      simp only [List.length_cons]
      omega
theorem place_hit : ∀ {l : List Ct} {i : Nat} {x : Ct} {q : ByteArray}, l[i]? = some x → i ≤ placeC l q → sameT x.name q = true → placeC l q = i
  | [], i, x, q, h, _, _ => by simp at h
  | c :: l, 0, x, q, h, _, e => by
    simp at h
    subst h
    unfold placeC
    rw [if_pos e]
  | c :: l, i + 1, x, q, h, hi, e => by
    simp at h
    unfold placeC at hi ⊢
    by_cases g : sameT c.name q = true
    · rw [if_pos g] at hi; omega
    · rw [if_neg g] at hi ⊢
      rw [place_hit h (by omega) e]
theorem place_on : ∀ {l : List Ct} {i : Nat} {x : Ct} {q : ByteArray}, l[i]? = some x → i ≤ placeC l q → sameT x.name q = false → i + 1 ≤ placeC l q
  | [], i, x, q, h, _, _ => by simp at h
  | c :: l, 0, x, q, h, _, e => by
    simp at h
    subst h
    unfold placeC
    rw [if_neg (by rw [e]; decide)]
    omega
  | c :: l, i + 1, x, q, h, hi, e => by
    simp at h
    unfold placeC at hi ⊢
    by_cases g : sameT c.name q = true
    · rw [if_pos g] at hi; omega
    · rw [if_neg g] at hi ⊢
      have := place_on h (by omega : i ≤ placeC l q) e
      omega
theorem place_is : ∀ {l : List Ct} {q : ByteArray} {x : Ct}, l[placeC l q]? = some x → x.name = q
  | [], q, x, h => by simp at h
  | c :: l, q, x, h => by
    unfold placeC at h
    by_cases g : sameT c.name q = true
    · rw [if_pos g] at h
      simp at h
      subst h
      exact (sameT_iff _ _).1 g
    · rw [if_neg g] at h
      simp at h
      exact place_is h
/- More, at most the greatest. -/
def moreC (a b : Int) : Int := if a + b ≤ topC then a + b else topC
theorem more_ok {a b : Int} (ha : 0 ≤ a) (hb : 0 ≤ b) : 0 ≤ moreC a b ∧ moreC a b ≤ topC := by
  unfold moreC topC
  split <;> omega
def putC (l : List Ct) (i : Nat) (v : Int) : List Ct := l.modify i (fun c => ⟨c.name, v⟩)
def addC (l : List Ct) (q : ByteArray) (n : Int) : List Ct := l.modify (placeC l q) (fun c => ⟨c.name, moreC c.n n⟩)
def hasC (l : List Ct) (q : ByteArray) : Bool := decide (placeC l q < l.length)
def getC (l : List Ct) (q : ByteArray) : Int := match l[placeC l q]? with
  | some c => c.n
  | none => 0
def newC (names : List ByteArray) : List Ct := names.map (fun q => ⟨q, 0⟩)
def restC (l : List Ct) : List Ct := l.map (fun c => ⟨c.name, 0⟩)
theorem add_len (l : List Ct) (q : ByteArray) (n : Int) : (addC l q n).length = l.length := by unfold addC; simp
theorem add_names (l : List Ct) (q : ByteArray) (n : Int) : (addC l q n).map (·.name) = l.map (·.name) := by
  unfold addC
  apply List.ext_getElem?
  intro i
  simp only [List.getElem?_map, List.getElem?_modify]
  cases l[i]? with
  | none => simp
  | some c => by_cases e : placeC l q = i <;> simp [e]
theorem add_ok {l : List Ct} (h : CtsOk l) (q : ByteArray) {n : Int} (hn : 0 ≤ n) : CtsOk (addC l q n) := by
  intro c hc
  obtain ⟨i, hi⟩ := List.mem_iff_getElem?.1 hc
  unfold addC at hi
  rw [List.getElem?_modify] at hi
  cases e : l[i]? with
  | none => rw [e] at hi; simp at hi
  | some d =>
    have hd := h d (List.mem_iff_getElem?.2 ⟨i, e⟩)
    rw [e] at hi
    simp at hi
    subst hi
    by_cases g : placeC l q = i
    · rw [if_pos g]; exact more_ok hd.1 hn
    · rw [if_neg g]; exact hd
theorem place_names : ∀ {l m : List Ct} (q : ByteArray), l.map (·.name) = m.map (·.name) → placeC l q = placeC m q
  | [], [], q, h => rfl
  | [], c :: m, q, h => by simp at h
  | c :: l, [], q, h => by simp at h
  | c :: l, d :: m, q, h => by
    simp at h
    unfold placeC
    rw [h.1, place_names q (by simpa using h.2)]
theorem new_ok (names : List ByteArray) : CtsOk (newC names) := by
  intro c hc
  unfold newC at hc
  obtain ⟨q, -, rfl⟩ := List.mem_map.1 hc
  exact ⟨Int.le_refl _, show (0 : Int) ≤ topC from by unfold topC; decide⟩
theorem new_len (names : List ByteArray) : (newC names).length = names.length := by unfold newC; simp
theorem rest_ok (l : List Ct) : CtsOk (restC l) := by
  intro c hc
  unfold restC at hc
  obtain ⟨q, -, rfl⟩ := List.mem_map.1 hc
  exact ⟨Int.le_refl _, show (0 : Int) ≤ topC from by unfold topC; decide⟩
theorem rest_len (l : List Ct) : (restC l).length = l.length := by unfold restC; simp
theorem rest_new {l : List Ct} {names : List ByteArray} (h : l.map (·.name) = names) : restC l = newC names := by
  unfold restC newC
  rw [← h, List.map_map]
  rfl
theorem new_names (names : List ByteArray) : (newC names).map (·.name) = names := by
  unfold newC
  rw [List.map_map]
  exact List.map_id _
/- Which names may be. -/
def emptyT : ByteArray := ⟨#[]⟩
def FineN (l : List ByteArray) (k : Nat) : Prop := ∀ i, i < k → ∀ x, l[i]? = some x → sameT x emptyT = false ∧ ∀ j, j < i → ∀ y, l[j]? = some y → sameT y x = false
def MayC (l : List ByteArray) : Prop := 0 < l.length ∧ l.length ≤ 4096 ∧ FineN l l.length
theorem fine_zero (l : List ByteArray) : FineN l 0 := fun i hi => absurd hi (Nat.not_lt_zero i)
theorem fine_next {l : List ByteArray} {k : Nat} (h : FineN l k) {x : ByteArray} (hx : l[k]? = some x) (h1 : sameT x emptyT = false) (h2 : ∀ j, j < k → ∀ y, l[j]? = some y → sameT y x = false) : FineN l (k + 1) := by
  intro i hi z hz
  by_cases e : i = k
  · subst e
    rw [hx] at hz
    injection hz with hz
    subst hz
    exact ⟨h1, h2⟩
  · exact h i (by omega) z hz
end Go.Proofs.Ytibidhmahjbciaa
