/- Heaps, where their items lie, and rows by times: plain. An item is its time and its id. No condition. Where items lie: a map of ids and places beside the buckets, while one place is to be filled (Sync) and when all are (Full); rows by times. Plain. No condition. A wheel in memory: its object of 65 cells, its rows of items, its map of ids and places. No condition. -/
import Derived.Test.YthgbdaladngpdaaGreatP05
import Derived.Maps.OwnSet
import Derived.Laws.AppendOwn
import Derived.BigQuiet
/- Heaps, where their items lie, and rows by times: plain. An item is its time and its id. No condition. -/
namespace Go.Proofs.YthgbdaladngpdaaGreat.Whl
set_option linter.unusedVariables false
set_option maxRecDepth 100000
set_option linter.unusedSimpArgs false

abbrev It := Int × Int
def upd {α : Type} (A : Nat → α) (a : Nat) (x : α) : Nat → α := fun i => if i = a then x else A i
theorem upd_at {α : Type} (A : Nat → α) (a : Nat) (x : α) : upd A a x a = x := by simp [upd]
theorem upd_ne {α : Type} (A : Nat → α) {a i : Nat} (x : α) (h : i ≠ a) : upd A a x i = A i := by simp [upd, h]
theorem upd_upd {α : Type} (A : Nat → α) (a : Nat) (x y : α) : upd (upd A a x) a y = upd A a y := by
  funext i; unfold upd; split <;> rfl
theorem upd_id {α : Type} (A : Nat → α) (a : Nat) : upd A a (A a) = A := by
  funext i; unfold upd; split
  · rename_i h; rw [h]
  · rfl
def du (l : List It) (j : Nat) : Int := (l[j]?.getD (0, 0)).1
theorem du_some {l : List It} {j : Nat} {x : It} (h : l[j]? = some x) : du l j = x.1 := by unfold du; rw [h]; rfl
theorem du_set {l : List It} {i : Nat} (hi : i < l.length) (y : It) (j : Nat) : du (l.set i y) j = if i = j then y.1 else du l j := by
  unfold du
  rw [List.getElem?_set]
  split
  · first | rfl | (rw [if_pos hi]; rfl)
  · rfl
theorem du_take {l : List It} {e j : Nat} (h : j < e) : du (l.take e) j = du l j := by
  unfold du; rw [List.getElem?_take, if_pos h]
theorem lt_of_some {α : Type} {l : List α} {j : Nat} {x : α} (h : l[j]? = some x) : j < l.length := (List.getElem?_eq_some_iff.1 h).1
def Heap (l : List It) : Prop := ∀ j, 0 < j → j < l.length → du l ((j - 1) / 2) ≤ du l j
def UpOk (l : List It) (i : Nat) : Prop := (∀ j, 0 < j → j < l.length → j ≠ i → du l ((j - 1) / 2) ≤ du l j) ∧ (0 < i → ∀ c, 0 < c → c < l.length → (c - 1) / 2 = i → du l ((i - 1) / 2) ≤ du l c)
def DownOk (l : List It) (i : Nat) : Prop := (∀ j, 0 < j → j < l.length → (j - 1) / 2 ≠ i → du l ((j - 1) / 2) ≤ du l j) ∧ (0 < i → ∀ c, 0 < c → c < l.length → (c - 1) / 2 = i → du l ((i - 1) / 2) ≤ du l c)
theorem heap_min {l : List It} (h : Heap l) : ∀ j, j < l.length → du l 0 ≤ du l j := by
  intro j
  induction j using Nat.strongRecOn with
  | ind j ih =>
    intro hj
    rcases Nat.eq_zero_or_pos j with rfl | h0
    · exact Int.le_refl _
    · exact Int.le_trans (ih ((j - 1) / 2) (by omega) (by omega)) (h j h0 hj)
def sw (l : List It) (i p : Nat) (y x : It) : List It := (l.set i y).set p x
theorem sw_len (l : List It) (i p : Nat) (y x : It) : (sw l i p y x).length = l.length := by simp [sw]
theorem du_sw {l : List It} {i p : Nat} (hi : i < l.length) (hp : p < l.length) (y x : It) (j : Nat) : du (sw l i p y x) j = if p = j then x.1 else if i = j then y.1 else du l j := by
  unfold sw
  rw [du_set (by simpa using hp), du_set hi]
theorem sw_get {l : List It} {i p : Nat} (hi : i < l.length) (hp : p < l.length) (y x : It) (j : Nat) : (sw l i p y x)[j]? = if p = j then some x else if i = j then some y else l[j]? := by
  unfold sw
  rw [List.getElem?_set, List.getElem?_set]
  simp only [List.length_set, hi, hp, if_true]
theorem up_step {l : List It} {i : Nat} {x y : It} (h : UpOk l i) (hi : 0 < i) (ex : l[i]? = some x) (ey : l[(i - 1) / 2]? = some y) (hx : x.1 < y.1) : UpOk (sw l i ((i - 1) / 2) y x) ((i - 1) / 2) := by
  have hl := lt_of_some ex
  have hp := lt_of_some ey
  have dy := du_some ey
  generalize hpp : (i - 1) / 2 = p at *
  constructor
  · intro j h0 hj hne
    rw [sw_len] at hj
    rw [du_sw hl hp, du_sw hl hp]
    by_cases ji : j = i
    · subst ji
      rw [if_pos hpp.symm, if_neg (by omega), if_pos rfl]; omega
    · rw [if_neg (Ne.symm hne), if_neg (Ne.symm ji)]
      have h1 := h.1 j h0 hj ji
      by_cases q1 : p = (j - 1) / 2
      · rw [if_pos q1]; rw [← q1] at h1; omega
      · rw [if_neg q1]
        by_cases q2 : i = (j - 1) / 2
        · rw [if_pos q2]
          have := h.2 hi j h0 hj q2.symm
          rw [hpp] at this; omega
        · rw [if_neg q2]; exact h1
  · intro h0 c hc hcl hcp
    rw [sw_len] at hcl
    rw [du_sw hl hp, du_sw hl hp]
    have h1 := h.1 p h0 hp (by omega)
    rw [if_neg (by omega), if_neg (by omega), if_neg (by omega)]
    by_cases ci : i = c
    · rw [if_pos ci]; omega
    · rw [if_neg ci]
      have := h.1 c hc hcl (Ne.symm ci)
      rw [hcp] at this; omega
theorem up_end {l : List It} {i : Nat} (h : UpOk l i) (hi : i = 0 ∨ du l ((i - 1) / 2) ≤ du l i) : Heap l := by
  intro j h0 hj
  by_cases e : j = i
  · subst e
    rcases hi with hi | hi
    · omega
    · exact hi
  · exact h.1 j h0 hj e
theorem down_step {l : List It} {i b : Nat} {x y : It} (h : DownOk l i) (hb : 0 < b) (hbi : (b - 1) / 2 = i) (ex : l[i]? = some x) (ey : l[b]? = some y) (hx : y.1 < x.1) (hle : ∀ c, 0 < c → c < l.length → (c - 1) / 2 = i → y.1 ≤ du l c) : DownOk (sw l i b y x) b := by
  have hl := lt_of_some ex
  have hp := lt_of_some ey
  have dy := du_some ey
  constructor
  · intro j h0 hj hne
    rw [sw_len] at hj
    rw [du_sw hl hp, du_sw hl hp]
    rw [if_neg (Ne.symm hne)]
    by_cases q : i = (j - 1) / 2
    · rw [if_pos q]
      by_cases jb : b = j
      · rw [if_pos jb]; omega
      · rw [if_neg jb, if_neg (by omega)]
        exact hle j h0 hj q.symm
    · rw [if_neg q]
      have h1 := h.1 j h0 hj (Ne.symm q)
      by_cases jb : b = j
      · omega
      · rw [if_neg jb]
        by_cases ji : i = j
        · rw [if_pos ji]
          subst ji
          have := h.2 h0 b hb hp hbi
          omega
        · rw [if_neg ji]; exact h1
  · intro h0 c hc hcl hcp
    rw [sw_len] at hcl
    rw [du_sw hl hp, du_sw hl hp, hbi]
    rw [if_neg (by omega), if_pos rfl, if_neg (by omega), if_neg (by omega)]
    have := h.1 c hc hcl (by omega)
    rw [hcp] at this; omega
theorem down_end {l : List It} {i : Nat} (h : DownOk l i) (hi : ∀ c, 0 < c → c < l.length → (c - 1) / 2 = i → du l i ≤ du l c) : Heap l := by
  intro j h0 hj
  by_cases e : (j - 1) / 2 = i
  · rw [e]; exact hi j h0 hj e
  · exact h.1 j h0 hj e
/- The one of the two below that is due first. -/
def chd (l : List It) (i : Nat) : Nat := if 2 * i + 2 < l.length ∧ du l (2 * i + 2) < du l (2 * i + 1) then 2 * i + 2 else 2 * i + 1
theorem chd_set (l : List It) (i : Nat) (x : It) : chd (l.set i x) i = chd l i := by
  unfold chd
  by_cases hi : i < l.length
  · have h1 : ¬ i = 2 * i + 2 := by omega
    have h2 : ¬ i = 2 * i + 1 := by omega
    rw [du_set hi, du_set hi, List.length_set]
    simp only [h1, h2, if_false]
  · rw [List.set_eq_of_length_le (by omega)]
theorem chd_pos (l : List It) (i : Nat) : 0 < chd l i ∧ (chd l i - 1) / 2 = i ∧ i < chd l i ∧ chd l i ≤ 2 * i + 2 := by unfold chd; split <;> omega
theorem chd_least (l : List It) (i : Nat) : ∀ c, 0 < c → c < l.length → (c - 1) / 2 = i → chd l i < l.length ∧ du l (chd l i) ≤ du l c := by
  intro c h0 hc hi
  unfold chd
  split
  · rename_i h
    refine ⟨h.1, ?_⟩
    rcases (show c = 2 * i + 1 ∨ c = 2 * i + 2 by omega) with rfl | rfl <;> omega
  · rename_i h
    refine ⟨by omega, ?_⟩
    rcases (show c = 2 * i + 1 ∨ c = 2 * i + 2 by omega) with rfl | rfl
    · omega
    · have : ¬ du l (2 * i + 2) < du l (2 * i + 1) := fun g => h ⟨hc, g⟩
      omega
/- An item gives its place to the last one. -/
theorem heap_take {l : List It} (h : Heap l) (e : Nat) : Heap (l.take e) := by
  intro j h0 hj
  rw [List.length_take] at hj
  rw [du_take (by omega), du_take (by omega)]
  exact h j h0 (by omega)
theorem settle_up {l : List It} {e a : Nat} {x : It} (h : Heap l) (ha : a < e) (he : e < l.length) (h0 : 0 < a) (hx : x.1 < du (l.take e) ((a - 1) / 2)) : UpOk ((l.take e).set a x) a := by
  have hlen : (l.take e).length = e := by simp; omega
  have ht := heap_take h e
  have hal : a < (l.take e).length := by omega
  have hpa := ht a h0 hal
  constructor
  · intro j hj0 hj hne
    rw [List.length_set] at hj
    rw [du_set hal, du_set hal, if_neg (Ne.symm hne)]
    have := ht j hj0 hj
    split
    · rename_i q; rw [← q] at this; omega
    · exact this
  · intro _ c hc hcl hci
    rw [List.length_set] at hcl
    rw [du_set hal, du_set hal, if_neg (by omega), if_neg (by omega)]
    have := ht c hc hcl
    rw [hci] at this
    omega
theorem settle_down {l : List It} {e a : Nat} {x : It} (h : Heap l) (ha : a < e) (he : e < l.length) (hx : a = 0 ∨ du (l.take e) ((a - 1) / 2) ≤ x.1) : DownOk ((l.take e).set a x) a := by
  have hlen : (l.take e).length = e := by simp; omega
  have ht := heap_take h e
  have hal : a < (l.take e).length := by omega
  constructor
  · intro j hj0 hj hne
    rw [List.length_set] at hj
    rw [du_set hal, du_set hal, if_neg (Ne.symm hne)]
    have := ht j hj0 hj
    split
    · rename_i q
      subst q
      rcases hx with hx | hx
      · omega
      · exact hx
    · exact this
  · intro h0 c hc hcl hci
    rw [List.length_set] at hcl
    rw [du_set hal, du_set hal, if_neg (by omega), if_neg (by omega)]
    have := ht c hc hcl
    rw [hci] at this
    have := ht a h0 hal
    omega
theorem up_new {l : List It} {x : It} (h : Heap l) : UpOk (l ++ [x]) l.length := by
  have hd : ∀ j, j < l.length → du (l ++ [x]) j = du l j := fun j hj => by unfold du; rw [List.getElem?_append_left hj]
  constructor
  · intro j h0 hj hne
    simp at hj
    rw [hd _ (by omega), hd _ (by omega)]
    exact h j h0 (by omega)
  · intro h0 c hc hcl hci
    simp at hcl
    omega
/- Orders that don't matter. -/
theorem set_perm : ∀ {l : List It} {i : Nat} {y : It} (x : It), l[i]? = some y → (x :: l).Perm (y :: l.set i x)
  | [], i, y, x, h => by simp at h
  | a :: t, 0, y, x, h => by
    simp at h; subst h
    exact List.Perm.swap _ _ _
  | a :: t, i + 1, y, x, h => by
    simp at h
    exact (List.Perm.swap _ _ _).trans (((set_perm x h).cons a).trans (List.Perm.swap _ _ _))
theorem sw_perm {l : List It} {i p : Nat} {x y : It} (hn : i ≠ p) (ex : l[i]? = some x) (ey : l[p]? = some y) : (sw l i p y x).Perm l := by
  have h1 := set_perm y ex
  have h2 : (l.set i y)[p]? = some y := by rw [List.getElem?_set, if_neg hn]; exact ey
  have h3 := set_perm x h2
  exact ((h1.trans h3).cons_inv).symm
theorem out_last {l : List It} {e : Nat} {x : It} (he : e + 1 = l.length) (ex : l[e]? = some x) : l = l.take e ++ [x] := by
  have : l.take (e + 1) = l.take e ++ [x] := by rw [List.take_add_one, ex]; rfl
  rw [he, List.take_length] at this
  exact this
theorem out_perm {l : List It} {e a : Nat} {x y : It} (ha : a < e) (he : e + 1 = l.length) (ex : l[e]? = some x) (ey : l[a]? = some y) : l.Perm (y :: (l.take e).set a x) := by
  have h1 := out_last he ex
  have h2 : (l.take e)[a]? = some y := by rw [List.getElem?_take, if_pos ha]; exact ey
  have h3 := set_perm x h2
  have h4 : (l.take e ++ [x]).Perm (x :: l.take e) := List.perm_append_comm
  rw [← h1] at h4
  exact h4.trans h3
theorem out_perm_last {l : List It} {e : Nat} {x : It} (he : e + 1 = l.length) (ex : l[e]? = some x) : l.Perm (x :: l.take e) := by
  have h1 := out_last he ex
  have h4 : (l.take e ++ [x]).Perm (x :: l.take e) := List.perm_append_comm
  rw [← h1] at h4
  exact h4
/- All buckets' items. -/
def flat (L : Nat → List It) : List It := (List.range 64).flatMap L
def rst (L : Nat → List It) (b : Nat) : List It := (List.range 64).flatMap (upd L b [])
theorem flat_part (L : Nat → List It) (b : Nat) : ∀ (is : List Nat), is.Nodup → b ∈ is → (is.flatMap L).Perm (L b ++ is.flatMap (upd L b []))
  | [], _, h => by simp at h
  | i :: t, hn, h => by
    rw [List.nodup_cons] at hn
    simp only [List.flatMap_cons]
    by_cases e : i = b
    · subst e
      rw [upd_at, List.nil_append]
      refine List.Perm.append_left _ (List.Perm.of_eq ?_)
      have : ∀ j ∈ t, L j = upd L i [] j := fun j hj => by rw [upd_ne]; rintro rfl; exact hn.1 hj
      clear h hn
      induction t with
      | nil => rfl
      | cons j r ih =>
        simp only [List.flatMap_cons]
        rw [this j (List.mem_cons.2 (.inl rfl)), ih (fun k hk => this k (List.mem_cons.2 (.inr hk)))]
    · have hb : b ∈ t := by
        rcases List.mem_cons.1 h with h | h
        · exact absurd h.symm e
        · exact h
      rw [upd_ne _ _ e]
      have := flat_part L b t hn.2 hb
      refine (List.Perm.append_left _ this).trans ?_
      rw [← List.append_assoc, ← List.append_assoc]
      exact List.Perm.append_right _ List.perm_append_comm
theorem flat_at (L : Nat → List It) {b : Nat} (hb : b < 64) : (flat L).Perm (L b ++ rst L b) := flat_part L b _ List.nodup_range (List.mem_range.2 hb)
theorem flat_upd (L : Nat → List It) {b : Nat} (hb : b < 64) (l : List It) : (flat (upd L b l)).Perm (l ++ rst L b) := by
  have := flat_at (upd L b l) hb
  unfold rst at this
  rw [upd_at, upd_upd] at this
  exact this
theorem flat_mem {L : Nat → List It} {x : It} : x ∈ flat L ↔ ∃ b, b < 64 ∧ x ∈ L b := by unfold flat; simp [List.mem_flatMap]
theorem flat_len (L : Nat → List It) {b : Nat} (hb : b < 64) : (L b).length ≤ (flat L).length := by
  rw [(flat_at L hb).length_eq]; simp
theorem flat_in {L : Nat → List It} {b : Nat} (hb : b < 64) {l : List It} {x : It} (h : l.Perm (x :: L b)) : (flat (upd L b l)).Perm (x :: flat L) :=
  (flat_upd L hb l).trans ((List.Perm.append_right _ h).trans ((flat_at L hb).symm.cons x))
theorem flat_out {L : Nat → List It} {b : Nat} (hb : b < 64) {l : List It} {x : It} (h : (L b).Perm (x :: l)) : (flat L).Perm (x :: flat (upd L b l)) :=
  (flat_at L hb).trans ((List.Perm.append_right _ h).trans ((flat_upd L hb l).symm.cons x))
theorem flat_same {L : Nat → List It} {b : Nat} (hb : b < 64) {l : List It} (h : l.Perm (L b)) : (flat (upd L b l)).Perm (flat L) :=
  (flat_upd L hb l).trans ((List.Perm.append_right _ h).trans (flat_at L hb).symm)
end Go.Proofs.YthgbdaladngpdaaGreat.Whl

/- Where items lie: a map of ids and places beside the buckets, while one place is to be filled (Sync) and when all are (Full); rows by times. Plain. No condition. -/
namespace Go.Proofs.YthgbdaladngpdaaGreat.Whl
set_option linter.unusedVariables false
set_option maxRecDepth 100000
set_option linter.unusedSimpArgs false

def updM (g : Int → Option (Nat × Nat)) (k : Int) (v : Nat × Nat) : Int → Option (Nat × Nat) := fun q => if q = k then some v else g q
def delM (g : Int → Option (Nat × Nat)) (k : Int) : Int → Option (Nat × Nat) := fun q => if q = k then none else g q
theorem updM_at (g : Int → Option (Nat × Nat)) (k : Int) (v : Nat × Nat) : updM g k v k = some v := by simp [updM]
theorem updM_ne (g : Int → Option (Nat × Nat)) {k q : Int} (v : Nat × Nat) (h : q ≠ k) : updM g k v q = g q := by simp [updM, h]
theorem delM_ne (g : Int → Option (Nat × Nat)) {k q : Int} (h : q ≠ k) : delM g k q = g q := by simp [delM, h]
structure Sync (L : Nat → List It) (g : Int → Option (Nat × Nat)) (x : It) (b i : Nat) : Prop where
  lt : b < 64
  here : (L b)[i]? = some x
  to : ∀ c j (y : It), c < 64 → (L c)[j]? = some y → ¬ (c = b ∧ j = i) → g y.2 = some (c, j) ∧ y.2 ≠ x.2
  back : ∀ k c j, k ≠ x.2 → g k = some (c, j) → c < 64 ∧ ∃ y : It, (L c)[j]? = some y ∧ y.2 = k
structure Full (L : Nat → List It) (g : Int → Option (Nat × Nat)) : Prop where
  to : ∀ c j (y : It), c < 64 → (L c)[j]? = some y → g y.2 = some (c, j)
  back : ∀ k c j, g k = some (c, j) → c < 64 ∧ ∃ y : It, (L c)[j]? = some y ∧ y.2 = k
section
variable {L : Nat → List It} {g : Int → Option (Nat × Nat)} {x y : It} {b i p : Nat}
theorem sync_swap (h : Sync L g x b i) (hn : i ≠ p) (ey : (L b)[p]? = some y) : Sync (upd L b (sw (L b) i p y x)) (updM g y.2 (b, i)) x b p := by
  have hi := lt_of_some h.here
  have hp := lt_of_some ey
  obtain ⟨gy, hyx⟩ := h.to b p y h.lt ey (by omega)
  refine ⟨h.lt, ?_, ?_, ?_⟩
  · rw [upd_at, sw_get hi hp, if_pos rfl]
  · intro c j z hc hz hne
    by_cases e : c = b
    · subst e
      rw [upd_at, sw_get hi hp] at hz
      have jp : ¬ p = j := by omega
      rw [if_neg jp] at hz
      by_cases ij : i = j
      · rw [if_pos ij] at hz
        injection hz with hz
        subst hz ij
        exact ⟨updM_at _ _ _, hyx⟩
      · rw [if_neg ij] at hz
        obtain ⟨g1, g2⟩ := h.to c j z hc hz (by omega)
        refine ⟨?_, g2⟩
        rw [updM_ne]
        · exact g1
        · intro e
          rw [e, gy] at g1
          injection g1 with g1
          injection g1 with _ g1
          exact jp g1
    · rw [upd_ne _ _ e] at hz
      obtain ⟨g1, g2⟩ := h.to c j z hc hz (by omega)
      refine ⟨?_, g2⟩
      rw [updM_ne]
      · exact g1
      · intro e'
        rw [e', gy] at g1
        injection g1 with g1
        injection g1 with g1 _
        exact e g1.symm
  · intro k c j hk hg
    by_cases ky : k = y.2
    · subst ky
      rw [updM_at] at hg
      injection hg with hg
      injection hg with h1 h2
      subst h1 h2
      refine ⟨h.lt, y, ?_, rfl⟩
      rw [upd_at, sw_get hi hp, if_neg (Ne.symm hn), if_pos rfl]
    · rw [updM_ne _ _ ky] at hg
      obtain ⟨hc, z, hz, hzk⟩ := h.back k c j hk hg
      refine ⟨hc, z, ?_, hzk⟩
      by_cases e : c = b
      · subst e
        have j1 : ¬ p = j := by rintro rfl; rw [ey] at hz; injection hz with hz; subst hz; exact ky hzk.symm
        have j2 : ¬ i = j := by rintro rfl; rw [h.here] at hz; injection hz with hz; subst hz; exact hk hzk.symm
        rw [upd_at, sw_get hi hp, if_neg j1, if_neg j2]
        exact hz
      · rw [upd_ne _ _ e]; exact hz
theorem sync_fill (h : Sync L g x b i) : Full L (updM g x.2 (b, i)) := by
  constructor
  · intro c j y hc hy
    by_cases e : c = b ∧ j = i
    · obtain ⟨rfl, rfl⟩ := e
      rw [h.here] at hy
      injection hy with hy
      subst hy
      exact updM_at _ _ _
    · obtain ⟨g1, g2⟩ := h.to c j y hc hy e
      rw [updM_ne _ _ g2]; exact g1
  · intro k c j hg
    by_cases e : k = x.2
    · subst e
      rw [updM_at] at hg
      injection hg with hg
      injection hg with h1 h2
      subst h1 h2
      exact ⟨h.lt, x, h.here, rfl⟩
    · rw [updM_ne _ _ e] at hg
      exact h.back k c j e hg
/- A new one, behind all others of its bucket. -/
theorem sync_new (h : Full L g) (hb : b < 64) (hx : g x.2 = none) : Sync (upd L b (L b ++ [x])) g x b (L b).length := by
  refine ⟨hb, by rw [upd_at]; simp, ?_, ?_⟩
  · intro c j y hc hy hne
    have hy2 : (L c)[j]? = some y := by
      by_cases e : c = b
      · subst e
        rw [upd_at] at hy
        have hj := lt_of_some hy
        simp at hj
        rw [List.getElem?_append_left (by omega)] at hy
        exact hy
      · rw [upd_ne _ _ e] at hy; exact hy
    have g1 := h.to c j y hc hy2
    exact ⟨g1, fun e => by rw [e, hx] at g1; cases g1⟩
  · intro k c j hk hg
    obtain ⟨hc, y, hy, e⟩ := h.back k c j hg
    refine ⟨hc, y, ?_, e⟩
    by_cases e : c = b
    · subst e
      rw [upd_at, List.getElem?_append_left (lt_of_some hy)]; exact hy
    · rw [upd_ne _ _ e]; exact hy
/- One gives its place to the last one. -/
theorem sync_out {e a : Nat} (h : Full L g) (hb : b < 64) (ha : a < e) (he : e + 1 = (L b).length) (ey : (L b)[a]? = some y) (ex : (L b)[e]? = some x) : Sync (upd L b (((L b).take e).set a x)) (delM g y.2) x b a := by
  have gy := h.to b a y hb ey
  have gx := h.to b e x hb ex
  have hal : a < ((L b).take e).length := by simp; omega
  refine ⟨hb, by rw [upd_at, List.getElem?_set, if_pos rfl, if_pos hal], ?_, ?_⟩
  · intro c j z hc hz hne
    by_cases ec : c = b
    · subst ec
      rw [upd_at, List.getElem?_set, if_neg (by omega), List.getElem?_take] at hz
      split at hz
      · rename_i hj
        have g1 := h.to c j z hc hz
        refine ⟨?_, fun e' => ?_⟩
        · rw [delM_ne]
          · exact g1
          · intro e'
            rw [e', gy] at g1
            injection g1 with g1
            injection g1 with _ g1
            omega
        · rw [e', gx] at g1
          injection g1 with g1
          injection g1 with _ g1
          omega
      · cases hz
    · rw [upd_ne _ _ ec] at hz
      have g1 := h.to c j z hc hz
      refine ⟨?_, fun e' => ?_⟩
      · rw [delM_ne]
        · exact g1
        · intro e'
          rw [e', gy] at g1
          injection g1 with g1
          injection g1 with g1 _
          omega
      · rw [e', gx] at g1
        injection g1 with g1
        injection g1 with g1 _
        omega
  · intro k c j hk hg
    by_cases ky : k = y.2
    · subst ky; simp [delM] at hg
    · rw [delM_ne _ ky] at hg
      obtain ⟨hc, z, hz, hzk⟩ := h.back k c j hg
      refine ⟨hc, z, ?_, hzk⟩
      by_cases ec : c = b
      · subst ec
        have j1 : j ≠ e := by rintro rfl; rw [ex] at hz; injection hz with hz; subst hz; exact hk hzk.symm
        have j2 : j ≠ a := by rintro rfl; rw [ey] at hz; injection hz with hz; subst hz; exact ky hzk.symm
        have := lt_of_some hz
        rw [upd_at, List.getElem?_set, if_neg (Ne.symm j2), List.getElem?_take, if_pos (by omega)]
        exact hz
      · rw [upd_ne _ _ ec]; exact hz
theorem full_out {e : Nat} (h : Full L g) (hb : b < 64) (he : e + 1 = (L b).length) (ex : (L b)[e]? = some x) : Full (upd L b ((L b).take e)) (delM g x.2) := by
  have gx := h.to b e x hb ex
  constructor
  · intro c j z hc hz
    by_cases ec : c = b
    · subst ec
      rw [upd_at, List.getElem?_take] at hz
      split at hz
      · have g1 := h.to c j z hc hz
        rw [delM_ne]
        · exact g1
        · intro e'
          rw [e', gx] at g1
          injection g1 with g1
          injection g1 with _ g1
          omega
      · cases hz
    · rw [upd_ne _ _ ec] at hz
      have g1 := h.to c j z hc hz
      rw [delM_ne]
      · exact g1
      · intro e'
        rw [e', gx] at g1
        injection g1 with g1
        injection g1 with g1 _
        omega
  · intro k c j hg
    by_cases ky : k = x.2
    · subst ky; simp [delM] at hg
    · rw [delM_ne _ ky] at hg
      obtain ⟨hc, z, hz, hzk⟩ := h.back k c j hg
      refine ⟨hc, z, ?_, hzk⟩
      by_cases ec : c = b
      · subst ec
        have j1 : j ≠ e := by rintro rfl; rw [ex] at hz; injection hz with hz; subst hz; exact ky hzk.symm
        have := lt_of_some hz
        rw [upd_at, List.getElem?_take, if_pos (by omega)]
        exact hz
      · rw [upd_ne _ _ ec]; exact hz
/- Whose id is there once. -/
theorem full_none (h : Full L g) {k : Int} : g k = none ↔ ∀ z ∈ flat L, z.2 ≠ k := by
  constructor
  · intro hk z hz e
    obtain ⟨c, hc, hm⟩ := flat_mem.1 hz
    obtain ⟨j, hj⟩ := List.getElem?_of_mem hm
    have := h.to c j z hc hj
    rw [e, hk] at this
    cases this
  · intro hk
    cases hg : g k with
    | none => rfl
    | some v =>
      obtain ⟨c, j⟩ := v
      obtain ⟨hc, z, hz, e⟩ := h.back k c j hg
      exact absurd e (hk z (flat_mem.2 ⟨c, hc, List.mem_of_getElem? hz⟩))
end
/- Rows by times, of one time by ids; no id twice. -/
abbrev Lt (a b : It) : Prop := a.1 < b.1 ∨ (a.1 = b.1 ∧ a.2 < b.2)
structure Srt (M : List It) : Prop where
  srt : M.Pairwise Lt
  uni : M.Pairwise (fun a b => a.2 ≠ b.2)
def wo (M : List It) (k : Int) : List It := M.filter (fun x => x.2 != k)
def ins (x : It) : List It → List It
  | [] => [x]
  | y :: t => if Lt x y then x :: y :: t else y :: ins x t
theorem lt_trans {a b c : It} (h : Lt a b) (g : Lt b c) : Lt a c := by unfold Lt at *; omega
theorem lt_tot {a b : It} (h : ¬ Lt a b) (hn : a.2 ≠ b.2) : Lt b a := by unfold Lt at *; omega
theorem ins_perm (x : It) : ∀ M, (ins x M).Perm (x :: M)
  | [] => List.Perm.refl _
  | y :: t => by
    unfold ins
    split
    · exact List.Perm.refl _
    · exact ((ins_perm x t).cons y).trans (List.Perm.swap _ _ _)
theorem srt_nil : Srt [] := ⟨List.Pairwise.nil, List.Pairwise.nil⟩
theorem srt_sub {M M' : List It} (h : Srt M) (s : M'.Sublist M) : Srt M' := ⟨h.srt.sublist s, h.uni.sublist s⟩
theorem srt_wo {M : List It} (h : Srt M) (k : Int) : Srt (wo M k) := srt_sub h List.filter_sublist
theorem srt_ins {x : It} : ∀ {M : List It}, Srt M → (∀ y ∈ M, y.2 ≠ x.2) → Srt (ins x M)
  | [], _, _ => ⟨List.pairwise_singleton _ _, List.pairwise_singleton _ _⟩
  | y :: t, h, hx => by
    have h1 := List.pairwise_cons.1 h.srt
    have h2 := List.pairwise_cons.1 h.uni
    unfold ins
    split
    · rename_i hl
      refine ⟨List.pairwise_cons.2 ⟨?_, h.srt⟩, List.pairwise_cons.2 ⟨fun z hz => Ne.symm (hx z hz), h.uni⟩⟩
      intro z hz
      rcases List.mem_cons.1 hz with rfl | hz
      · exact hl
      · exact lt_trans hl (h1.1 z hz)
    · rename_i hl
      have ih := srt_ins (x := x) (M := t) ⟨h1.2, h2.2⟩ (fun z hz => hx z (List.mem_cons.2 (.inr hz)))
      have hyx := hx y (List.mem_cons.2 (.inl rfl))
      refine ⟨List.pairwise_cons.2 ⟨?_, ih.srt⟩, List.pairwise_cons.2 ⟨?_, ih.uni⟩⟩
      · intro z hz
        rcases List.mem_cons.1 ((ins_perm x t).mem_iff.1 hz) with rfl | hz
        · exact lt_tot hl (Ne.symm hyx)
        · exact h1.1 z hz
      · intro z hz
        rcases List.mem_cons.1 ((ins_perm x t).mem_iff.1 hz) with rfl | hz
        · exact hyx
        · exact h2.1 z hz
theorem wo_perm {M : List It} {x : It} {l : List It} (h : M.Perm (x :: l)) (hl : ∀ z ∈ l, z.2 ≠ x.2) : (wo M x.2).Perm l := by
  have h1 : (wo M x.2).Perm (wo (x :: l) x.2) := h.filter _
  have h2 : wo (x :: l) x.2 = l := by
    unfold wo
    rw [List.filter_cons_of_neg (by simp)]
    exact List.filter_eq_self.2 (fun z hz => by simpa using hl z hz)
  rw [h2] at h1
  exact h1
theorem wo_not {M : List It} {k : Int} (h : ∀ z ∈ M, z.2 ≠ k) : wo M k = M := List.filter_eq_self.2 (fun z hz => by simpa using h z hz)
theorem wo_mem {M : List It} {k : Int} : ∀ z ∈ wo M k, z.2 ≠ k := fun z hz => by simpa [wo] using (List.mem_filter.1 hz).2
/- What is due at a time, and the rest. -/
def due (M : List It) (t : Int) : List It := M.filter (fun x => decide (x.1 ≤ t))
def aft (M : List It) (t : Int) : List It := M.filter (fun x => !decide (x.1 ≤ t))
theorem due_unique {M T R : List It} {t : Int} (h : Srt M) (hp : M.Perm (T ++ R)) (hT : ∀ x ∈ T, x.1 ≤ t) (hR : ∀ x ∈ R, t < x.1) : T.Perm (due M t) ∧ R.Perm (aft M t) := by
  have h1 : (due M t).Perm (due (T ++ R) t) := hp.filter _
  have h2 : (aft M t).Perm (aft (T ++ R) t) := hp.filter _
  have e1 : due (T ++ R) t = T := by
    unfold due
    rw [List.filter_append, List.filter_eq_self.2 (fun x hx => by simpa using hT x hx), List.filter_eq_nil_iff.2 (fun x hx => by have := hR x hx; simp; omega), List.append_nil]
  have e2 : aft (T ++ R) t = R := by
    unfold aft
    rw [List.filter_append, List.filter_eq_nil_iff.2 (fun x hx => by simpa using hT x hx), List.filter_eq_self.2 (fun x hx => by have := hR x hx; simp; omega), List.nil_append]
  rw [e1] at h1
  rw [e2] at h2
  exact ⟨h1.symm, h2.symm⟩
theorem sort_unique {T S : List It} (h : T.Perm S) (hT : T.Pairwise (fun a b => Lt a b ∨ a = b)) (hS : Srt S) : T = S := by
  refine List.Perm.eq_of_pairwise (le := fun a b => Lt a b ∨ a = b) ?_ hT (hS.srt.imp (fun h => .inl h)) h
  intro a b _ _ h1 h2
  rcases h1 with h1 | h1
  · rcases h2 with h2 | h2
    · unfold Lt at *; omega
    · exact h2.symm
  · exact h1
end Go.Proofs.YthgbdaladngpdaaGreat.Whl

/- A wheel in memory: its object of 65 cells, its rows of items, its map of ids and places. No condition. -/
namespace Go.Proofs.YthgbdaladngpdaaGreat.Whl
open Go.ChangeShapes Go.WideShapes Go.ChangeAt Go.RowKit
set_option linter.unusedVariables false
set_option maxRecDepth 100000
set_option linter.unusedSimpArgs false

theorem says_int {x y : Int} (e : x = y) : Ending.returned (.int .i64 x) = Ending.returned (.int .i64 y) := congrArg (fun z => Ending.returned (.int .i64 z)) e
theorem says_bool {x y : Bool} (e : x = y) : Ending.returned (.bool x) = Ending.returned (.bool y) := congrArg (fun z => Ending.returned (.bool z)) e
theorem kept_drewN {W w : World} (h : Kept W w) (n : Nat) : Kept W (w.drewN n) := h
theorem at_cells2 {w : World} {X T : Nat} {a0 a1 : Value} (h : At w X #[a0, a1] T) : w.cell? ⟨X, 0, none⟩ = some a0 ∧ w.cell? ⟨X, 1, none⟩ = some a1 ∧ ∀ j, w.frozen? ⟨X, j, none⟩ = false := ⟨at_cell h 0, at_cell h 1, at_frozen h⟩
/- Items as cells. -/
def iw (l : List It) : List Value := l.flatMap (fun x => [.int .u64 x.1, .int .i64 x.2])
theorem iw_cons (x : It) (l : List It) : iw (x :: l) = .int .u64 x.1 :: .int .i64 x.2 :: iw l := rfl
theorem iw_len : ∀ l : List It, (iw l).length = l.length * 2
  | [] => rfl
  | x :: l => by rw [iw_cons]; simp [iw_len l]; omega
theorem iw_app (l : List It) (x : It) : iw (l ++ [x]) = iw l ++ [.int .u64 x.1, .int .i64 x.2] := by unfold iw; simp
theorem iw_get : ∀ {l : List It} {i : Nat} {x : It}, l[i]? = some x → (iw l)[i * 2]? = some (.int .u64 x.1) ∧ (iw l)[i * 2 + 1]? = some (.int .i64 x.2)
  | [], i, x, h => by simp at h
  | y :: l, 0, x, h => by simp at h; subst h; exact ⟨rfl, rfl⟩
  | y :: l, i + 1, x, h => by
    simp at h
    have := iw_get h
    rw [iw_cons, show (i + 1) * 2 = i * 2 + 2 by omega]
    exact this
theorem iw_set : ∀ (l : List It) (i : Nat) (x : It), ((iw l).set (i * 2) (.int .u64 x.1)).set (i * 2 + 1) (.int .i64 x.2) = iw (l.set i x)
  | [], i, x => rfl
  | y :: l, 0, x => rfl
  | y :: l, i + 1, x => by
    rw [iw_cons, show (i + 1) * 2 = i * 2 + 2 by omega]
    simp only [List.set_cons_succ]
    rw [iw_cons, ← iw_set l i x]
theorem iw_take : ∀ (l : List It) (e : Nat), (iw l).take (e * 2) = iw (l.take e)
  | [], e => by simp [iw]
  | y :: l, 0 => rfl
  | y :: l, e + 1 => by
    rw [iw_cons, show (e + 1) * 2 = e * 2 + 2 by omega]
    simp only [List.take_succ_cons]
    rw [iw_cons, ← iw_take l e]
def Row (w : World) (v : Value) (l : List It) : Prop := w.ownsRow 0 123 2 v l.length (iw l)
def set2 (w : World) (q o : Nat) (a b : Value) : World := (w.setCell ⟨q, o, none⟩ a).setCell ⟨q, o + 1, none⟩ b
section
variable {w w' : World} {v : Value} {l : List It}
theorem row_block (h : Row w v l) (k : ∀ q cs, v.ownBlock = some q → At w q cs 123 → w'.heap[q]? = w.heap[q]?) : Row w' v l := by
  refine ⟨h.1, ?_⟩
  rcases h.2 with hn | ⟨q, cap, cur, rfl, hb, hg, rest⟩
  · exact .inl hn
  · exact .inr ⟨q, cap, cur, rfl, hb, (k q cur rfl hg).trans hg, rest⟩
theorem row_at (h : Row w v l) {q : Nat} (hq : v.ownBlock = some q) : ∃ cs, At w q cs 123 := by
  rcases h.2 with ⟨rfl, _⟩ | ⟨g, cap, cur, rfl, hb, hg, rest⟩
  · cases hq
  · injection hq with hq; subst hq; exact ⟨cur, hg⟩
theorem row_kept (h : Row w v l) (k : Kept w w') : Row w' v l := row_block h (fun q cs _ ha => kept_block k (at_lt ha))
theorem row_none (w : World) : Row w (.slice none 0 0) [] := World.ownsRow_nil w 0 123 2
theorem row_is (h : Row w v l) : ∃ a cap, v = .slice a l.length cap := by
  rcases h.2 with ⟨rfl, hn⟩ | ⟨g, cap, cur, rfl, _⟩
  · exact ⟨none, 0, by rw [hn]⟩
  · exact ⟨_, cap, rfl⟩
theorem row_some (h : Row w v l) (h0 : 0 < l.length) : ∃ q cap, v = .slice (some ⟨q, 0, none⟩) l.length cap ∧ l.length ≤ cap ∧ cap ≤ maxLen := by
  rcases h.2 with ⟨rfl, hn⟩ | ⟨g, cap, cur, rfl, _, _, hc, hm, _⟩
  · omega
  · exact ⟨g, cap, rfl, hc, hm⟩
theorem row_cells {q n cap : Nat} (h : Row w (.slice (some ⟨q, 0, none⟩) n cap) l) {i : Nat} {x : It} (hx : l[i]? = some x) : w.cell? ⟨q, i * 2, none⟩ = some (.int .u64 x.1) ∧ w.cell? ⟨q, i * 2 + 1, none⟩ = some (.int .i64 x.2) ∧ ∀ j, w.frozen? ⟨q, j, none⟩ = false := by
  rcases h.2 with ⟨h1, _⟩ | ⟨g, c2, cur, h1, hb, hg, hc, hm, hs, ht⟩
  · cases h1
  · injection h1 with h1 h2 h3
    injection h1 with h1
    injection h1 with h1
    subst h1
    obtain ⟨g0, g1⟩ := iw_get hx
    rw [← ht] at g0 g1
    have hl := lt_of_some hx
    rw [List.getElem?_take, if_pos (by omega)] at g0 g1
    exact ⟨(at_cell hg _).trans (by simpa using g0), (at_cell hg _).trans (by simpa using g1), at_frozen hg⟩
theorem row_set {q n cap : Nat} (h : Row w (.slice (some ⟨q, 0, none⟩) n cap) l) {i : Nat} (hi : i < l.length) (x : It) : Row (set2 w q (i * 2) (.int .u64 x.1) (.int .i64 x.2)) (.slice (some ⟨q, 0, none⟩) n cap) (l.set i x) := by
  refine ⟨by rw [iw_len], ?_⟩
  rcases h.2 with ⟨h1, _⟩ | ⟨g, c2, cur, h1, hb, hg, hc, hm, hs, ht⟩
  · cases h1
  · injection h1 with h1 h2 h3
    injection h1 with h1
    injection h1 with h1
    subst h1 h2 h3
    refine .inr ⟨q, cap, _, by rw [List.length_set], hb, at_set (at_set hg _ _) _ _, by rw [List.length_set]; exact hc, hm, by simpa using hs, ?_⟩
    rw [List.length_set]
    simp only [Array.toList_setIfInBounds]
    rw [List.take_set, List.take_set, ht, iw_set]
theorem row_cut {q n cap : Nat} (h : Row w (.slice (some ⟨q, 0, none⟩) n cap) l) {e : Nat} (he : e ≤ l.length) : Row w (.slice (some ⟨q, 0, none⟩) e cap) (l.take e) := by
  refine ⟨by rw [iw_len], ?_⟩
  rcases h.2 with ⟨h1, _⟩ | ⟨g, c2, cur, h1, hb, hg, hc, hm, hs, ht⟩
  · cases h1
  · injection h1 with h1 h2 h3
    injection h1 with h1
    injection h1 with h1
    subst h1 h2 h3
    have hl : (l.take e).length = e := by simp; omega
    refine .inr ⟨q, cap, cur, by rw [hl], hb, hg, by omega, hm, hs, ?_⟩
    rw [hl, ← iw_take, ← ht, List.take_take]
    congr 1
    omega
end
/- The map of ids and places. -/
def pv (p : Nat × Nat) : Value := .agg #[.int .i64 (p.1 : Int), .int .i64 (p.2 : Int)]
def pd (a b : Int) : DataW Unit := .agg [.lit (.int .i64 a), .lit (.int .i64 b)]
def rp (v : Value) : Option (DataW Unit × List MemPlace) :=
  match v with
  | .agg xs => match xs.toList with
    | [.int .i64 a, .int .i64 b] => some (pd a b, [])
    | _ => none
  | _ => none
theorem rp_mk (a b : Int) : rp (.agg #[.int .i64 a, .int .i64 b]) = some (pd a b, []) := rfl
theorem rp_inv {v : Value} {a b : Int} {ps : List MemPlace} (h : rp v = some (pd a b, ps)) : v = .agg #[.int .i64 a, .int .i64 b] := by
  unfold rp at h
  split at h
  · rename_i xs
    split at h
    · rename_i a' b' hx
      injection h with h
      injection h with h _
      unfold pd at h
      injection h with h
      injection h with h1 h2
      injection h1 with h1
      injection h1 with _ h1
      injection h2 with h2
      injection h2 with h2
      injection h2 with _ h2
      subst h1 h2
      congr 1
      exact Array.toList_inj.1 hx
    · cases h
  · cases h
def ki (i : Int) : Lit := .int .i64 i
theorem ki_ne {a b : Int} (h : a ≠ b) : ki a ≠ ki b := fun e => h (by unfold ki at e; injection e)
theorem zero57 (w : World) : (zeroValue 126).run Tryz.prog w = .ok (.agg #[.int .i64 0, .int .i64 0]) w := by kernel_rfl
theorem keyed3 : Maps.Keyed Tryz.prog 3 := Maps.int_keyed Tryz.underlying3
def Wf (k : Int) : Prop := (Lit.int .i64 k).wf = true
def Wu (k : Int) : Prop := (Lit.int .u64 k).wf = true
theorem key3 {k : Int} (h : Wf k) : keyOf Tryz.prog 3 (.int .i64 k) = some (ki k) := Maps.keyOf_int_mk Tryz.underlying3 h
def Whr (w : World) (m : Nat) (g : Int → Option (Nat × Nat)) (c : Nat) : Prop :=
  ∃ D : DataW Unit, w.ownsMap Tryz.prog 3 rp m (Maps.size D) D ∧ Maps.size D = c ∧ ∀ k : Int, Maps.has D (ki k) = (g k).isSome ∧ ∀ p, g k = some p → D.atKey (ki k) (pd 0 0) = pd (p.1 : Int) (p.2 : Int)
theorem owns_fit {w : World} {b n : Nat} {D : DataW Unit} {Q : Value → Option (DataW Unit × List MemPlace)} (h : w.ownsMap Tryz.prog 3 Q b n D) : w.ownsMap Tryz.prog 3 Q b (Maps.size D) D := by
  obtain ⟨es, clock, hb, F, hs, rfl⟩ := h
  exact ⟨es, clock, hb, F, by simp [Maps.size, length_sorted], rfl⟩
section
variable {W w w' : World} {b m c : Nat} {g : Int → Option (Nat × Nat)}
theorem turned_block (h : w.mapTurned w' b) {i : Nat} (hi : i < w.heap.size) (hn : i ≠ b) : w'.heap[i]? = w.heap[i]? := h.grown.block i hi (fun e => hn (Option.some.inj e))
theorem turned_map (h : w.mapTurned w' b) : ∃ es clock, w.heap[b]? = some (.map es clock) := by
  obtain ⟨es, clock, _, _, hb, _⟩ := h
  exact ⟨es, clock, hb⟩
theorem at_map {X T : Nat} {cs : Array Value} (h : At w X cs T) {es : Array MapEntry} {clock : Nat} (g : w.heap[b]? = some (.map es clock)) : X ≠ b := by
  rintro rfl
  unfold At at h
  rw [h] at g
  cases g
theorem at_turned {X T : Nat} {cs : Array Value} (h : At w X cs T) (t : w.mapTurned w' b) : At w' X cs T := by
  obtain ⟨es, clock, g⟩ := turned_map t
  exact (turned_block t (at_lt h) (at_map h g)).trans h
theorem row_turned {v : Value} {l : List It} (h : Row w v l) (t : w.mapTurned w' b) : Row w' v l := by
  obtain ⟨es, clock, g⟩ := turned_map t
  exact row_block h (fun i cur _ ha => turned_block t (at_lt ha) (at_map ha g))
theorem owns_block {D : DataW Unit} {k : TypeId} {Q : Value → Option (DataW Unit × List MemPlace)} {n : Nat} (h : w.ownsMap Tryz.prog k Q b n D) (e : w'.heap[b]? = w.heap[b]?) : w'.ownsMap Tryz.prog k Q b n D := by
  obtain ⟨es, clock, hb, r⟩ := h
  exact ⟨es, clock, e.trans hb, r⟩
theorem whr_block (h : Whr w m g c) (e : w'.heap[m]? = w.heap[m]?) : Whr w' m g c := by
  obtain ⟨D, h1, h2⟩ := h
  exact ⟨D, owns_block h1 e, h2⟩
theorem whr_is (h : Whr w m g c) : ∃ es clock, w.heap[m]? = some (.map es clock) := by
  obtain ⟨D, ⟨es, clock, hb, _⟩, _⟩ := h
  exact ⟨es, clock, hb⟩
theorem whr_lt (h : Whr w m g c) : m < w.heap.size := by
  obtain ⟨D, h1, _⟩ := h
  exact h1.lt
theorem whr_made (w : World) : Whr (w.alloc (.map #[] 0)) w.heap.size (fun _ => none) 0 :=
  ⟨.map [], World.ownsMap_made w Tryz.prog 3 _, rfl, fun s => ⟨rfl, fun v h => by cases h⟩⟩
theorem whr_look (h : Whr w m g c) {k : Int} (hk : Wf k) : (Instr.lookup 119 (.map (some m)) (.int .i64 k) true).run Tryz.prog w = .ok (.tuple #[pv ((g k).getD (0, 0)), .bool (g k).isSome]) w := by
  obtain ⟨D, h1, h2, h3⟩ := h
  obtain ⟨v, ps, hrun, hv⟩ := h1.look_ok keyed3 Tryz.underlying119 (zero57 w) (rp_mk 0 0) (key3 hk)
  obtain ⟨g1, g2⟩ := h3 k
  rw [hrun, g1]
  cases e : g k with
  | none =>
    rw [e] at g1
    rw [Maps.atKey_of_not_has g1] at hv
    rw [rp_inv hv]; rfl
  | some y =>
    rw [g2 y e] at hv
    rw [rp_inv hv]; rfl
theorem whr_len (h : Whr w m g c) (ty : TypeId) : (Builtin.len_ #[119] ty #[.map (some m)]).run Tryz.prog w = .ok (.int .i64 (c : Int)) w := by
  obtain ⟨D, h1, h2, h3⟩ := h
  rw [h1.len Tryz.underlying119 ty, h2]
theorem whr_put (h : Whr w m g c) (hn : c ≤ 100000) {k : Int} (hk : Wf k) (p : Nat × Nat) :
    ∃ w', (Instr.mapUpdate 119 (.map (some m)) (.int .i64 k) (.agg #[.int .i64 (p.1 : Int), .int .i64 (p.2 : Int)])).run Tryz.prog w = .ok () w' ∧ Whr w' m (updM g k p) (c + if g k = none then 1 else 0) ∧ w.mapTurned w' m := by
  obtain ⟨D, h1, h2, h3⟩ := h
  obtain ⟨w', hrun, g1, g2⟩ := h1.store keyed3 Tryz.underlying119 (by rw [h2]; unfold maxLen; omega) (key3 hk) (rp_mk (p.1 : Int) (p.2 : Int))
  have hI : WideAt.IsKeyLit (ki k) := keyed3.key (key3 hk)
  refine ⟨w', hrun, ⟨_, owns_fit g1, ?_, fun q => ?_⟩, g2⟩
  · rw [Maps.size_put (h1.tidy keyed3), (h3 k).1, h2]
    cases e : g k with
    | none => simp
    | some y => simp
  · by_cases e : q = k
    · subst e
      rw [updM_at, Maps.has_put_same h1.isMap hI]
      refine ⟨rfl, fun y hy => ?_⟩
      injection hy with hy
      rw [Maps.atKey_put_same h1.isMap hI, hy]
    · rw [updM_ne _ _ e, Maps.has_put_other (ki_ne e)]
      exact ⟨(h3 q).1, fun y hy => by rw [Maps.atKey_put_other (ki_ne e)]; exact (h3 q).2 y hy⟩
theorem whr_del (h : Whr w m g c) {k : Int} (hk : Wf k) (ty : TypeId) :
    ∃ w', (Builtin.delete_ #[119, 3] ty #[.map (some m), .int .i64 k]).run Tryz.prog w = .ok (.tuple #[]) w' ∧ (∀ c', c' + (if g k = none then 0 else 1) = c → Whr w' m (delM g k) c') ∧ w.mapTurned w' m := by
  obtain ⟨D, h1, h2, h3⟩ := h
  obtain ⟨w', hrun, g1, g2⟩ := h1.drop keyed3 Tryz.underlying119 (key3 hk) ty
  have hI : WideAt.IsKeyLit (ki k) := keyed3.key (key3 hk)
  refine ⟨w', hrun, fun c' hc' => ⟨_, owns_fit g1, ?_, fun q => ?_⟩, g2⟩
  · have := Maps.size_del (k := ki k) (h1.tidy keyed3)
    rw [(h3 k).1, h2] at this
    cases e : g k with
    | none => rw [e] at hc' this; simp at hc' this; omega
    | some y => rw [e] at hc' this; simp at hc' this; omega
  · by_cases e : q = k
    · subst e
      have e0 : delM g q q = none := by simp [delM]
      rw [e0]
      exact ⟨Maps.has_del_same, fun y hy => by cases hy⟩
    · rw [delM_ne _ e, Maps.has_del_other (ki_ne e)]
      exact ⟨(h3 q).1, fun y hy => by rw [Maps.atKey_del_other (ki_ne e)]; exact (h3 q).2 y hy⟩
end
/- Blocks of one's own may have turned, all else that was there stands. -/
def Tn (F : Nat → Prop) (w w' : World) : Prop :=
  w'.os = w.os ∧ w'.output = w.output ∧ w.heap.size ≤ w'.heap.size ∧ ∀ k, k < w.heap.size → ¬ F k → w'.heap[k]? = w.heap[k]?
section
variable {F : Nat → Prop} {u v w w' : World}
theorem tn_kept (h : Kept w w') : Tn F w w' := ⟨kept_os h, kept_output h, h.2, fun k hk _ => kept_block h hk⟩
theorem tn_refl : Tn F w w := tn_kept (kept_refl w)
theorem tn_trans (h : Tn F u v) (k : Tn F v w) : Tn F u w :=
  ⟨k.1.trans h.1, k.2.1.trans h.2.1, Nat.le_trans h.2.2.1 k.2.2.1, fun i hi hn => (k.2.2.2 i (Nat.lt_of_lt_of_le hi h.2.2.1) hn).trans (h.2.2.2 i hi hn)⟩
theorem tn_set (h : Tn F u w) {X : Nat} (hX : F X ∨ u.heap.size ≤ X) (o : Nat) (x : Value) : Tn F u (w.setCell ⟨X, o, none⟩ x) :=
  ⟨h.1, h.2.1, by simpa [World.setCell] using h.2.2.1, fun k hk hn => (Below.heap_setCell _ _ _ _ (by
    show k ≠ X
    rintro rfl
    rcases hX with hX | hX
    · exact hn hX
    · omega)).trans (h.2.2.2 k hk hn)⟩
theorem tn_set2 (h : Tn F u w) {X : Nat} (hX : F X ∨ u.heap.size ≤ X) (o : Nat) (a b : Value) : Tn F u (set2 w X o a b) := tn_set (tn_set h hX _ _) hX _ _
theorem tn_alloc (h : Tn F u w) (o : Obj) : Tn F u (w.alloc o) := tn_trans h (tn_kept (kept_alloc (kept_refl w) o))
theorem tn_turned {m : Nat} (h : Tn F u w) (hm : F m) (t : w.mapTurned w' m) : Tn F u w' := by
  have g := t.grown
  refine tn_trans h ⟨g.os, g.output, g.size, fun k hk hn => turned_block t hk (fun e => hn (by rw [e]; exact hm))⟩
theorem at_tn {X T : Nat} {cs : Array Value} (h : At w X cs T) (t : Tn F w w') (hX : ¬ F X) : At w' X cs T := (t.2.2.2 X (at_lt h) hX).trans h
theorem kept_tn {W : World} (h : Kept W w) (hF : ∀ k, F k → W.heap.size ≤ k) (t : Tn F w w') : Kept W w' :=
  kept_of (t.1.trans (kept_os h)) (t.2.1.trans (kept_output h)) (Nat.le_trans h.2 t.2.2.1) (fun i hi => (t.2.2.2 i (Nat.lt_of_lt_of_le hi h.2) (fun hf => by have := hF i hf; omega)).trans (kept_block h hi))
end
structure Wm (w : World) (F : Nat → Prop) (X m : Nat) (V : Nat → Value) (L : Nat → List It) (g : Int → Option (Nat × Nat)) (c : Nat) : Prop where
  obj : ∃ cs, At w X cs 121 ∧ cs.size = 65 ∧ (∀ b, b < 64 → cs[b]? = some (V b)) ∧ cs[64]? = some (.map (some m))
  map : Whr w m g c
  row : ∀ b, b < 64 → Row w (V b) (L b)
  apart : ∀ b d q, b < 64 → d < 64 → (V b).ownBlock = some q → (V d).ownBlock = some q → b = d
  fX : F X
  fm : F m
  fV : ∀ b q, b < 64 → (V b).ownBlock = some q → F q
  low : ∀ k, F k → k < w.heap.size
section
variable {w w' : World} {F : Nat → Prop} {X m c : Nat} {V : Nat → Value} {L : Nat → List It} {g : Int → Option (Nat × Nat)}
theorem wm_kept (h : Wm w F X m V L g c) (k : Kept w w') : Wm w' F X m V L g c := by
  obtain ⟨cs, h1, h2⟩ := h.obj
  exact ⟨⟨cs, at_kept h1 k, h2⟩, whr_block h.map (kept_block k (whr_lt h.map)), fun b hb => row_kept (h.row b hb) k, h.apart, h.fX, h.fm, h.fV, fun j hj => Nat.lt_of_lt_of_le (h.low j hj) k.2⟩
theorem wm_low (h : Wm w F X m V L g c) : X < w.heap.size ∧ m < w.heap.size ∧ ∀ b q, b < 64 → (V b).ownBlock = some q → q < w.heap.size := by
  obtain ⟨cs, h1, h2⟩ := h.obj
  refine ⟨at_lt h1, whr_lt h.map, fun b q hb hq => ?_⟩
  obtain ⟨ds, h3⟩ := row_at (h.row b hb) hq
  exact at_lt h3
theorem wm_cell (h : Wm w F X m V L g c) {b : Nat} (hb : b < 64) : w.cell? ⟨X, b, none⟩ = some (V b) ∧ w.cell? ⟨X, 64, none⟩ = some (.map (some m)) ∧ ∀ j, w.frozen? ⟨X, j, none⟩ = false := by
  obtain ⟨cs, h1, h2, h3, h4⟩ := h.obj
  exact ⟨(at_cell h1 _).trans (h3 b hb), (at_cell h1 _).trans h4, at_frozen h1⟩
theorem wm_map (h : Wm w F X m V L g c) : w.cell? ⟨X, 64, none⟩ = some (.map (some m)) := (wm_cell h (b := 0) (by omega)).2.1
/- What is stored elsewhere. -/
theorem wm_setP (h : Wm w F X m V L g c) {P : Nat} (hP : ¬ F P) (o : Nat) (v : Value) : Wm (w.setCell ⟨P, o, none⟩ v) F X m V L g c := by
  have hh : ∀ k, F k → (w.setCell ⟨P, o, none⟩ v).heap[k]? = w.heap[k]? := fun k hk => Below.heap_setCell _ _ _ _ (by show k ≠ P; rintro rfl; exact hP hk)
  obtain ⟨cs, h1, h2⟩ := h.obj
  exact ⟨⟨cs, (hh X h.fX).trans h1, h2⟩, whr_block h.map (hh m h.fm), fun b hb => row_block (h.row b hb) (fun q _ hq _ => hh q (h.fV b q hb hq)), h.apart, h.fX, h.fm, h.fV, fun j hj => by simpa [World.setCell] using h.low j hj⟩
/- An item stored. -/
theorem wm_set (h : Wm w F X m V L g c) {b i : Nat} (hb : b < 64) (hi : i < (L b).length) {q n cap : Nat} (hv : V b = .slice (some ⟨q, 0, none⟩) n cap) (x : It) :
    Wm (set2 w q (i * 2) (.int .u64 x.1) (.int .i64 x.2)) F X m V (upd L b ((L b).set i x)) g c := by
  have hr := h.row b hb
  have hq : (V b).ownBlock = some q := by rw [hv]; rfl
  obtain ⟨ds, hds⟩ := row_at hr hq
  obtain ⟨cs, h1, h2⟩ := h.obj
  obtain ⟨es, clock, hmp⟩ := whr_is h.map
  have hX := at_ne h1 hds (by decide)
  have hM := at_map hds hmp
  have hh : ∀ k, k ≠ q → (set2 w q (i * 2) (.int .u64 x.1) (.int .i64 x.2)).heap[k]? = w.heap[k]? := fun k hk => (Below.heap_setCell _ _ _ _ hk).trans (Below.heap_setCell _ _ _ _ hk)
  refine ⟨⟨cs, (hh X hX).trans h1, h2⟩, whr_block h.map (hh m (Ne.symm hM)), fun d hd => ?_, h.apart, h.fX, h.fm, h.fV, fun j hj => by simpa [set2, World.setCell] using h.low j hj⟩
  by_cases e : d = b
  · subst e
    rw [upd_at]
    rw [hv] at hr ⊢
    exact row_set hr hi x
  · rw [upd_ne _ _ e]
    exact row_block (h.row d hd) (fun p _ hp _ => hh p (by rintro rfl; exact e (h.apart d b p hd hb hp hq)))
/- The map turned. -/
theorem wm_turned (h : Wm w F X m V L g c) (t : w.mapTurned w' m) {g' : Int → Option (Nat × Nat)} {c' : Nat} (hw : Whr w' m g' c') : Wm w' F X m V L g' c' := by
  obtain ⟨cs, h1, h2⟩ := h.obj
  exact ⟨⟨cs, at_turned h1 t, h2⟩, hw, fun b hb => row_turned (h.row b hb) t, h.apart, h.fX, h.fm, h.fV, fun j hj => Nat.lt_of_lt_of_le (h.low j hj) t.grown.size⟩
/- A bucket's row stored. -/
theorem wm_store (h : Wm w F X m V L g c) {b : Nat} (hb : b < 64) {v : Value} {l : List It} (hr : Row w v l) (hq : ∀ q, v.ownBlock = some q → F q ∧ ∀ d, d < 64 → d ≠ b → (V d).ownBlock ≠ some q) :
    Wm (w.setCell ⟨X, b, none⟩ v) F X m (upd V b v) (upd L b l) g c := by
  obtain ⟨cs, h1, h2, h3, h4⟩ := h.obj
  obtain ⟨es, clock, hmp⟩ := whr_is h.map
  have hM := at_map h1 hmp
  have hh : ∀ k, k ≠ X → (w.setCell ⟨X, b, none⟩ v).heap[k]? = w.heap[k]? := fun k hk => Below.heap_setCell _ _ _ _ hk
  refine ⟨⟨_, at_set h1 _ _, by simpa using h2, fun d hd => ?_, ?_⟩, whr_block h.map (hh m (Ne.symm hM)), fun d hd => ?_, ?_, h.fX, h.fm, ?_, fun j hj => by simpa [World.setCell] using h.low j hj⟩
  · rw [Array.getElem?_setIfInBounds]
    by_cases e : b = d
    · rw [if_pos e, if_pos (by omega), ← e, upd_at]
    · rw [if_neg e, upd_ne _ _ (Ne.symm e)]; exact h3 d hd
  · rw [Array.getElem?_setIfInBounds, if_neg (by omega)]; exact h4
  · by_cases e : d = b
    · subst e
      rw [upd_at, upd_at]
      exact row_block hr (fun q ds _ ha => hh q (Ne.symm (at_ne h1 ha (by decide))))
    · rw [upd_ne _ _ e, upd_ne _ _ e]
      exact row_block (h.row d hd) (fun q ds _ ha => hh q (Ne.symm (at_ne h1 ha (by decide))))
  · intro a d q ha hd h5 h6
    by_cases ea : a = b
    · by_cases ed : d = b
      · omega
      · subst ea
        rw [upd_at] at h5
        rw [upd_ne _ _ ed] at h6
        exact absurd h6 ((hq q h5).2 d hd ed)
    · by_cases ed : d = b
      · subst ed
        rw [upd_at] at h6
        rw [upd_ne _ _ ea] at h5
        exact absurd h5 ((hq q h6).2 a ha ea)
      · rw [upd_ne _ _ ea] at h5
        rw [upd_ne _ _ ed] at h6
        exact h.apart a d q ha hd h5 h6
  · intro d q hd h5
    by_cases e : d = b
    · subst e; rw [upd_at] at h5; exact (hq q h5).1
    · rw [upd_ne _ _ e] at h5; exact h.fV d q hd h5
/- .. a beginning of it. -/
theorem wm_cut (h : Wm w F X m V L g c) {b e : Nat} (hb : b < 64) {q n cap : Nat} (hv : V b = .slice (some ⟨q, 0, none⟩) n cap) (he : e ≤ (L b).length) :
    Wm (w.setCell ⟨X, b, none⟩ (.slice (some ⟨q, 0, none⟩) e cap)) F X m (upd V b (.slice (some ⟨q, 0, none⟩) e cap)) (upd L b ((L b).take e)) g c := by
  have hr := h.row b hb
  have hq : (V b).ownBlock = some q := by rw [hv]; rfl
  rw [hv] at hr
  refine wm_store h hb (row_cut hr he) (fun p hp => ?_)
  injection hp with hp
  subst hp
  exact ⟨h.fV b _ hb hq, fun d hd hn h5 => hn (h.apart d b _ hd hb h5 hq)⟩
end
end Go.Proofs.YthgbdaladngpdaaGreat.Whl
