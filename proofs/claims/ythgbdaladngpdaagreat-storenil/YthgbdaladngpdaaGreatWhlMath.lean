/- Heaps, where their items lie, and rows by times: plain. An item is its time and its id. No condition. -/
import Derived.Test.YthgbdaladngpdaaGreatState
namespace Go.Proofs.YthgbdaladngpdaaGreat.Whl
set_option linter.unusedVariables false
set_option maxRecDepth 100000
set_option linter.unusedSimpArgs false

abbrev It := Int × Int
def upd {α : Type} (A : Nat → α) (a : Nat) (x : α) : Nat → α := fun i => if i = a then x else A i
theorem upd_at {α : Type} (A : Nat → α) (a : Nat) (x : α) : upd A a x a = x := by simp [upd]
theorem upd_ne {α : Type} (A : Nat → α) {a i : Nat} (x : α) (h : i ≠ a) : upd A a x i = A i := by simp [upd, h]
theorem upd_upd {α : Type} (A : Nat → α) (a : Nat) (x y : α) : upd (upd A a x) a y = upd A a y := by
  funext i; unfold upd; split <;> rfl
theorem upd_id {α : Type} (A : Nat → α) (a : Nat) : upd A a (A a) = A := by
  funext i; unfold upd; split
  · rename_i h; rw [h]
  · rfl
def du (l : List It) (j : Nat) : Int := (l[j]?.getD (0, 0)).1
theorem du_some {l : List It} {j : Nat} {x : It} (h : l[j]? = some x) : du l j = x.1 := by unfold du; rw [h]; rfl
theorem du_set {l : List It} {i : Nat} (hi : i < l.length) (y : It) (j : Nat) : du (l.set i y) j = if i = j then y.1 else du l j := by
  unfold du
  rw [List.getElem?_set]
  split
  · first | rfl | (rw [if_pos hi]; rfl)
  · rfl
theorem du_take {l : List It} {e j : Nat} (h : j < e) : du (l.take e) j = du l j := by
  unfold du; rw [List.getElem?_take, if_pos h]
theorem lt_of_some {α : Type} {l : List α} {j : Nat} {x : α} (h : l[j]? = some x) : j < l.length := (List.getElem?_eq_some_iff.1 h).1
def Heap (l : List It) : Prop := ∀ j, 0 < j → j < l.length → du l ((j - 1) / 2) ≤ du l j
def UpOk (l : List It) (i : Nat) : Prop := (∀ j, 0 < j → j < l.length → j ≠ i → du l ((j - 1) / 2) ≤ du l j) ∧ (0 < i → ∀ c, 0 < c → c < l.length → (c - 1) / 2 = i → du l ((i - 1) / 2) ≤ du l c)
def DownOk (l : List It) (i : Nat) : Prop := (∀ j, 0 < j → j < l.length → (j - 1) / 2 ≠ i → du l ((j - 1) / 2) ≤ du l j) ∧ (0 < i → ∀ c, 0 < c → c < l.length → (c - 1) / 2 = i → du l ((i - 1) / 2) ≤ du l c)
theorem heap_min {l : List It} (h : Heap l) : ∀ j, j < l.length → du l 0 ≤ du l j := by
  intro j
  induction j using Nat.strongRecOn with
  | ind j ih =>
    intro hj
    rcases Nat.eq_zero_or_pos j with rfl | h0
    · exact Int.le_refl _
    · exact Int.le_trans (ih ((j - 1) / 2) (by omega) (by omega)) (h j h0 hj)
def sw (l : List It) (i p : Nat) (y x : It) : List It := (l.set i y).set p x
theorem sw_len (l : List It) (i p : Nat) (y x : It) : (sw l i p y x).length = l.length := by simp [sw]
theorem du_sw {l : List It} {i p : Nat} (hi : i < l.length) (hp : p < l.length) (y x : It) (j : Nat) : du (sw l i p y x) j = if p = j then x.1 else if i = j then y.1 else du l j := by
  unfold sw
  rw [du_set (by simpa using hp), du_set hi]
theorem sw_get {l : List It} {i p : Nat} (hi : i < l.length) (hp : p < l.length) (y x : It) (j : Nat) : (sw l i p y x)[j]? = if p = j then some x else if i = j then some y else l[j]? := by
  unfold sw
  rw [List.getElem?_set, List.getElem?_set]
  simp only [List.length_set, hi, hp, if_true]
theorem up_step {l : List It} {i : Nat} {x y : It} (h : UpOk l i) (hi : 0 < i) (ex : l[i]? = some x) (ey : l[(i - 1) / 2]? = some y) (hx : x.1 < y.1) : UpOk (sw l i ((i - 1) / 2) y x) ((i - 1) / 2) := by
  have hl := lt_of_some ex
  have hp := lt_of_some ey
  have dy := du_some ey
  generalize hpp : (i - 1) / 2 = p at *
  constructor
  · intro j h0 hj hne
    rw [sw_len] at hj
    rw [du_sw hl hp, du_sw hl hp]
    by_cases ji : j = i
    · subst ji
      rw [if_pos hpp.symm, if_neg (by omega), if_pos rfl]; omega
    · rw [if_neg (Ne.symm hne), if_neg (Ne.symm ji)]
      have h1 := h.1 j h0 hj ji
      by_cases q1 : p = (j - 1) / 2
      · rw [if_pos q1]; rw [← q1] at h1; omega
      · rw [if_neg q1]
        by_cases q2 : i = (j - 1) / 2
        · rw [if_pos q2]
          have := h.2 hi j h0 hj q2.symm
          rw [hpp] at this; omega
        · rw [if_neg q2]; exact h1
  · intro h0 c hc hcl hcp
    rw [sw_len] at hcl
    rw [du_sw hl hp, du_sw hl hp]
    have h1 := h.1 p h0 hp (by omega)
    rw [if_neg (by omega), if_neg (by omega), if_neg (by omega)]
    by_cases ci : i = c
    · rw [if_pos ci]; omega
    · rw [if_neg ci]
      have := h.1 c hc hcl (Ne.symm ci)
      rw [hcp] at this; omega
theorem up_end {l : List It} {i : Nat} (h : UpOk l i) (hi : i = 0 ∨ du l ((i - 1) / 2) ≤ du l i) : Heap l := by
  intro j h0 hj
  by_cases e : j = i
  · subst e
    rcases hi with hi | hi
    · omega
    · exact hi
  · exact h.1 j h0 hj e
theorem down_step {l : List It} {i b : Nat} {x y : It} (h : DownOk l i) (hb : 0 < b) (hbi : (b - 1) / 2 = i) (ex : l[i]? = some x) (ey : l[b]? = some y) (hx : y.1 < x.1) (hle : ∀ c, 0 < c → c < l.length → (c - 1) / 2 = i → y.1 ≤ du l c) : DownOk (sw l i b y x) b := by
  have hl := lt_of_some ex
  have hp := lt_of_some ey
  have dy := du_some ey
  constructor
  · intro j h0 hj hne
    rw [sw_len] at hj
    rw [du_sw hl hp, du_sw hl hp]
    rw [if_neg (Ne.symm hne)]
    by_cases q : i = (j - 1) / 2
    · rw [if_pos q]
      by_cases jb : b = j
      · rw [if_pos jb]; omega
      · rw [if_neg jb, if_neg (by omega)]
        exact hle j h0 hj q.symm
    · rw [if_neg q]
      have h1 := h.1 j h0 hj (Ne.symm q)
      by_cases jb : b = j
      · omega
      · rw [if_neg jb]
        by_cases ji : i = j
        · rw [if_pos ji]
          subst ji
          have := h.2 h0 b hb hp hbi
          omega
        · rw [if_neg ji]; exact h1
  · intro h0 c hc hcl hcp
    rw [sw_len] at hcl
    rw [du_sw hl hp, du_sw hl hp, hbi]
    rw [if_neg (by omega), if_pos rfl, if_neg (by omega), if_neg (by omega)]
    have := h.1 c hc hcl (by omega)
    rw [hcp] at this; omega
theorem down_end {l : List It} {i : Nat} (h : DownOk l i) (hi : ∀ c, 0 < c → c < l.length → (c - 1) / 2 = i → du l i ≤ du l c) : Heap l := by
  intro j h0 hj
  by_cases e : (j - 1) / 2 = i
  · rw [e]; exact hi j h0 hj e
  · exact h.1 j h0 hj e
/- The one of the two below that is due first. -/
def chd (l : List It) (i : Nat) : Nat := if 2 * i + 2 < l.length ∧ du l (2 * i + 2) < du l (2 * i + 1) then 2 * i + 2 else 2 * i + 1
theorem chd_set (l : List It) (i : Nat) (x : It) : chd (l.set i x) i = chd l i := by
  unfold chd
  by_cases hi : i < l.length
  · have h1 : ¬ i = 2 * i + 2 := by omega
    have h2 : ¬ i = 2 * i + 1 := by omega
    rw [du_set hi, du_set hi, List.length_set]
    simp only [h1, h2, if_false]
  · rw [List.set_eq_of_length_le (by omega)]
theorem chd_pos (l : List It) (i : Nat) : 0 < chd l i ∧ (chd l i - 1) / 2 = i ∧ i < chd l i ∧ chd l i ≤ 2 * i + 2 := by unfold chd; split <;> omega
theorem chd_least (l : List It) (i : Nat) : ∀ c, 0 < c → c < l.length → (c - 1) / 2 = i → chd l i < l.length ∧ du l (chd l i) ≤ du l c := by
  intro c h0 hc hi
  unfold chd
  split
  · rename_i h
    refine ⟨h.1, ?_⟩
    rcases (show c = 2 * i + 1 ∨ c = 2 * i + 2 by omega) with rfl | rfl <;> omega
  · rename_i h
    refine ⟨by omega, ?_⟩
    rcases (show c = 2 * i + 1 ∨ c = 2 * i + 2 by omega) with rfl | rfl
    · omega
    · have : ¬ du l (2 * i + 2) < du l (2 * i + 1) := fun g => h ⟨hc, g⟩
      omega
/- An item gives its place to the last one. -/
theorem heap_take {l : List It} (h : Heap l) (e : Nat) : Heap (l.take e) := by
  intro j h0 hj
  rw [List.length_take] at hj
  rw [du_take (by omega), du_take (by omega)]
  exact h j h0 (by omega)
theorem settle_up {l : List It} {e a : Nat} {x : It} (h : Heap l) (ha : a < e) (he : e < l.length) (h0 : 0 < a) (hx : x.1 < du (l.take e) ((a - 1) / 2)) : UpOk ((l.take e).set a x) a := by
  have hlen : (l.take e).length = e := by simp; omega
  have ht := heap_take h e
  have hal : a < (l.take e).length := by omega
  have hpa := ht a h0 hal
  constructor
  · intro j hj0 hj hne
    rw [List.length_set] at hj
    rw [du_set hal, du_set hal, if_neg (Ne.symm hne)]
    have := ht j hj0 hj
    split
    · rename_i q; rw [← q] at this; omega
    · exact this
  · intro _ c hc hcl hci
    rw [List.length_set] at hcl
    rw [du_set hal, du_set hal, if_neg (by omega), if_neg (by omega)]
    have := ht c hc hcl
    rw [hci] at this
    omega
theorem settle_down {l : List It} {e a : Nat} {x : It} (h : Heap l) (ha : a < e) (he : e < l.length) (hx : a = 0 ∨ du (l.take e) ((a - 1) / 2) ≤ x.1) : DownOk ((l.take e).set a x) a := by
  have hlen : (l.take e).length = e := by simp; omega
  have ht := heap_take h e
  have hal : a < (l.take e).length := by omega
  constructor
  · intro j hj0 hj hne
    rw [List.length_set] at hj
    rw [du_set hal, du_set hal, if_neg (Ne.symm hne)]
    have := ht j hj0 hj
    split
    · rename_i q
      subst q
      rcases hx with hx | hx
      · omega
      · exact hx
    · exact this
  · intro h0 c hc hcl hci
    rw [List.length_set] at hcl
    rw [du_set hal, du_set hal, if_neg (by omega), if_neg (by omega)]
    have := ht c hc hcl
    rw [hci] at this
    have := ht a h0 hal
    omega
theorem up_new {l : List It} {x : It} (h : Heap l) : UpOk (l ++ [x]) l.length := by
  have hd : ∀ j, j < l.length → du (l ++ [x]) j = du l j := fun j hj => by unfold du; rw [List.getElem?_append_left hj]
  constructor
  · intro j h0 hj hne
    simp at hj
    rw [hd _ (by omega), hd _ (by omega)]
    exact h j h0 (by omega)
  · intro h0 c hc hcl hci
    simp at hcl
    omega
/- Orders that don't matter. -/
theorem set_perm : ∀ {l : List It} {i : Nat} {y : It} (x : It), l[i]? = some y → (x :: l).Perm (y :: l.set i x)
  | [], i, y, x, h => by simp at h
  | a :: t, 0, y, x, h => by
    simp at h; subst h
    exact List.Perm.swap _ _ _
  | a :: t, i + 1, y, x, h => by
    simp at h
    exact (List.Perm.swap _ _ _).trans (((set_perm x h).cons a).trans (List.Perm.swap _ _ _))
theorem sw_perm {l : List It} {i p : Nat} {x y : It} (hn : i ≠ p) (ex : l[i]? = some x) (ey : l[p]? = some y) : (sw l i p y x).Perm l := by
  have h1 := set_perm y ex
  have h2 : (l.set i y)[p]? = some y := by rw [List.getElem?_set, if_neg hn]; exact ey
  have h3 := set_perm x h2
  exact ((h1.trans h3).cons_inv).symm
theorem out_last {l : List It} {e : Nat} {x : It} (he : e + 1 = l.length) (ex : l[e]? = some x) : l = l.take e ++ [x] := by
  have : l.take (e + 1) = l.take e ++ [x] := by rw [List.take_add_one, ex]; rfl
  rw [he, List.take_length] at this
  exact this
theorem out_perm {l : List It} {e a : Nat} {x y : It} (ha : a < e) (he : e + 1 = l.length) (ex : l[e]? = some x) (ey : l[a]? = some y) : l.Perm (y :: (l.take e).set a x) := by
  have h1 := out_last he ex
  have h2 : (l.take e)[a]? = some y := by rw [List.getElem?_take, if_pos ha]; exact ey
  have h3 := set_perm x h2
  have h4 : (l.take e ++ [x]).Perm (x :: l.take e) := List.perm_append_comm
  rw [← h1] at h4
  exact h4.trans h3
theorem out_perm_last {l : List It} {e : Nat} {x : It} (he : e + 1 = l.length) (ex : l[e]? = some x) : l.Perm (x :: l.take e) := by
  have h1 := out_last he ex
  have h4 : (l.take e ++ [x]).Perm (x :: l.take e) := List.perm_append_comm
  rw [← h1] at h4
  exact h4
/- All buckets' items. -/
def flat (L : Nat → List It) : List It := (List.range 64).flatMap L
def rst (L : Nat → List It) (b : Nat) : List It := (List.range 64).flatMap (upd L b [])
theorem flat_part (L : Nat → List It) (b : Nat) : ∀ (is : List Nat), is.Nodup → b ∈ is → (is.flatMap L).Perm (L b ++ is.flatMap (upd L b []))
  | [], _, h => by simp at h
  | i :: t, hn, h => by
    rw [List.nodup_cons] at hn
    simp only [List.flatMap_cons]
    by_cases e : i = b
    · subst e
      rw [upd_at, List.nil_append]
      refine List.Perm.append_left _ (List.Perm.of_eq ?_)
      have : ∀ j ∈ t, L j = upd L i [] j := fun j hj => by rw [upd_ne]; rintro rfl; exact hn.1 hj
      clear h hn
      induction t with
      | nil => rfl
      | cons j r ih =>
        simp only [List.flatMap_cons]
        rw [this j (List.mem_cons.2 (.inl rfl)), ih (fun k hk => this k (List.mem_cons.2 (.inr hk)))]
    · have hb : b ∈ t := by
        rcases List.mem_cons.1 h with h | h
        · exact absurd h.symm e
        · exact h
      rw [upd_ne _ _ e]
      have := flat_part L b t hn.2 hb
      refine (List.Perm.append_left _ this).trans ?_
      rw [← List.append_assoc, ← List.append_assoc]
      exact List.Perm.append_right _ List.perm_append_comm
theorem flat_at (L : Nat → List It) {b : Nat} (hb : b < 64) : (flat L).Perm (L b ++ rst L b) := flat_part L b _ List.nodup_range (List.mem_range.2 hb)
theorem flat_upd (L : Nat → List It) {b : Nat} (hb : b < 64) (l : List It) : (flat (upd L b l)).Perm (l ++ rst L b) := by
  have := flat_at (upd L b l) hb
  unfold rst at this
  rw [upd_at, upd_upd] at this
  exact this
theorem flat_mem {L : Nat → List It} {x : It} : x ∈ flat L ↔ ∃ b, b < 64 ∧ x ∈ L b := by unfold flat; simp [List.mem_flatMap]
theorem flat_len (L : Nat → List It) {b : Nat} (hb : b < 64) : (L b).length ≤ (flat L).length := by
  rw [(flat_at L hb).length_eq]; simp
theorem flat_in {L : Nat → List It} {b : Nat} (hb : b < 64) {l : List It} {x : It} (h : l.Perm (x :: L b)) : (flat (upd L b l)).Perm (x :: flat L) :=
  (flat_upd L hb l).trans ((List.Perm.append_right _ h).trans ((flat_at L hb).symm.cons x))
theorem flat_out {L : Nat → List It} {b : Nat} (hb : b < 64) {l : List It} {x : It} (h : (L b).Perm (x :: l)) : (flat L).Perm (x :: flat (upd L b l)) :=
  (flat_at L hb).trans ((List.Perm.append_right _ h).trans ((flat_upd L hb l).symm.cons x))
theorem flat_same {L : Nat → List It} {b : Nat} (hb : b < 64) {l : List It} (h : l.Perm (L b)) : (flat (upd L b l)).Perm (flat L) :=
  (flat_upd L hb l).trans ((List.Perm.append_right _ h).trans (flat_at L hb).symm)
end Go.Proofs.YthgbdaladngpdaaGreat.Whl
