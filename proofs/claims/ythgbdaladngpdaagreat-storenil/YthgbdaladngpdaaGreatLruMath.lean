/- A list of numbers as a ring of links: who stands ahead of a number, who behind it. What taking a number out, and putting one first, make of the ring; how it is gone through. Plain mathematics, no condition. -/
namespace Go.Proofs.YthgbdaladngpdaaGreat.Lru
set_option linter.unusedVariables false
set_option maxRecDepth 100000

def upd (f : Nat → Nat) (a v : Nat) : Nat → Nat := fun i => if i = a then v else f i
theorem upd_at (f : Nat → Nat) (a v : Nat) : upd f a v a = v := if_pos rfl
theorem upd_ne (f : Nat → Nat) {a i : Nat} (v : Nat) (h : i ≠ a) : upd f a v i = f i := if_neg h

def Chain (A B : Nat → Nat) : List Nat → Prop
  | x :: y :: t => B x = y ∧ A y = x ∧ Chain A B (y :: t)
  | _ => True
section
variable {A B A' B' : Nat → Nat}
theorem chain_congr : ∀ (s : List Nat), (∀ x, x ∈ s.dropLast → B' x = B x) → (∀ x, x ∈ s.tail → A' x = A x) → Chain A B s → Chain A' B' s
  | [], _, _, _ => trivial
  | [_], _, _, _ => trivial
  | x :: y :: t, hB, hA, h => by
    refine ⟨(hB x (by simp)).trans h.1, (hA y (by simp)).trans h.2.1, chain_congr (y :: t) (fun z hz => hB z ?_) (fun z hz => hA z ?_) h.2.2⟩
    · rw [List.dropLast_cons_of_ne_nil (by simp)]; exact List.mem_cons_of_mem _ hz
    · exact List.mem_cons_of_mem _ hz
theorem chain_join : ∀ (p : List Nat) (x : Nat) (q : List Nat), Chain A B (p ++ x :: q) ↔ Chain A B (p ++ [x]) ∧ Chain A B (x :: q)
  | [], x, q => ⟨fun h => ⟨trivial, h⟩, fun h => h.2⟩
  | [y], x, q => ⟨fun h => ⟨⟨h.1, h.2.1, trivial⟩, h.2.2⟩, fun h => ⟨h.1.1, h.1.2.1, h.2⟩⟩
  | y :: z :: p, x, q => by
    have ih := chain_join (z :: p) x q
    constructor
    · intro h; exact ⟨⟨h.1, h.2.1, (ih.1 h.2.2).1⟩, (ih.1 h.2.2).2⟩
    · intro h; exact ⟨h.1.1, h.1.2.1, ih.2 ⟨h.1.2.2, h.2⟩⟩
theorem chain_at : ∀ {s : List Nat} {k x y : Nat}, Chain A B s → s[k]? = some x → s[k + 1]? = some y → B x = y ∧ A y = x
  | [], _, _, _, _, h, _ => by simp at h
  | [_], k, _, _, _, _, h => by simp at h
  | a :: b :: t, 0, x, y, h, h1, h2 => by
    simp at h1 h2
    subst h1 h2
    exact ⟨h.1, h.2.1⟩
  | a :: b :: t, k + 1, x, y, h, h1, h2 => chain_at (s := b :: t) (k := k) h.2.2 (by simpa using h1) (by simpa using h2)
end
/- The ring of a list: its numbers and, behind the last one, n, which is none; whoever isn't there stands alone. -/
structure Ring (n : Nat) (A B : Nat → Nat) (l : List Nat) : Prop where
  chain : Chain A B (n :: (l ++ [n]))
  once : l.Nodup
  low : ∀ x, x ∈ l → x < n
  out : ∀ i, i < n → i ∉ l → A i = i ∧ B i = i
def wo (l : List Nat) (i : Nat) : List Nat := l.filter (fun x => x != i)
theorem mem_wo {l : List Nat} {i x : Nat} : x ∈ wo l i ↔ x ∈ l ∧ x ≠ i := by unfold wo; simp
theorem wo_not {l : List Nat} {i : Nat} (h : i ∉ l) : wo l i = l := by
  unfold wo
  rw [List.filter_eq_self]
  intro a ha
  simp only [bne_iff_ne]
  rintro rfl
  exact h ha
theorem wo_nodup {l : List Nat} {i : Nat} (h : l.Nodup) : (wo l i).Nodup := h.filter _
theorem wo_mid {p q : List Nat} {i : Nat} (h : (p ++ i :: q).Nodup) : wo (p ++ i :: q) i = p ++ q := by
  obtain ⟨h1, h2, h3⟩ := List.nodup_append.1 h
  have hp : i ∉ p := fun hi => h3 i hi i (by simp) rfl
  have hq : i ∉ q := (List.nodup_cons.1 h2).1
  have e1 := wo_not hp
  have e2 := wo_not hq
  unfold wo at *
  rw [List.filter_append, List.filter_cons, e1, e2]
  simp
/- The k-th number of a list; behind the last one, n. -/
def nth (l : List Nat) (n k : Nat) : Nat := (l[k]?).getD n
theorem nth_lt {l : List Nat} {n k : Nat} (h : k < l.length) : nth l n k = l[k] := by unfold nth; simp [h]
theorem nth_ge {l : List Nat} {n k : Nat} (h : l.length ≤ k) : nth l n k = n := by unfold nth; simp [h]
theorem nth_eq {l : List Nat} {n k : Nat} (h : k ≤ l.length) : (l ++ [n])[k]? = some (nth l n k) := by
  rcases Nat.lt_or_eq_of_le h with h1 | h1
  · rw [nth_lt h1, List.getElem?_append_left h1]; simp [h1]
  · rw [nth_ge (by omega), List.getElem?_append_right (by omega)]; simp [h1]
section
variable {n : Nat} {A B : Nat → Nat} {l : List Nat}
theorem ring_new (n : Nat) : Ring n id id [] := ⟨⟨rfl, rfl, trivial⟩, List.nodup_nil, fun x h => (by cases h), fun i _ _ => ⟨rfl, rfl⟩⟩
theorem ring_none (r : Ring n A B l) : n ∉ l := fun h => Nat.lt_irrefl _ (r.low n h)
theorem ring_first_is (r : Ring n A B l) : B n = nth l n 0 :=
  (chain_at (k := 0) r.chain (by simp) (by simpa using nth_eq (n := n) (Nat.zero_le l.length))).1
theorem ring_next (r : Ring n A B l) {k : Nat} (h : k < l.length) : B (nth l n k) = nth l n (k + 1) :=
  (chain_at (k := k + 1) r.chain (by simpa using nth_eq (n := n) (Nat.le_of_lt h)) (by simpa using nth_eq (n := n) (show k + 1 ≤ l.length from h))).1
theorem ring_last (r : Ring n A B l) : A n = (if h : l = [] then n else l.getLast h) := by
  split
  · rename_i h
    subst h
    exact r.chain.2.1
  · rename_i h
    have hl : 0 < l.length := by cases l with
      | nil => exact absurd rfl h
      | cons a t => simp
    refine (chain_at (k := l.length) (x := l.getLast h) (y := n) r.chain ?_ ?_).2
    · obtain ⟨m, hm⟩ : ∃ m, l.length = m + 1 := ⟨l.length - 1, by omega⟩
      rw [hm, List.getElem?_cons_succ, List.getElem?_append_left (by omega), List.getLast_eq_getElem]
      simp [hm]
    · rw [List.getElem?_cons_succ, List.getElem?_append_right (by omega)]
      simp
theorem ring_bound (r : Ring n A B l) {i : Nat} (h : i ≤ n) : A i ≤ n ∧ B i ≤ n := by
  have hs : ∀ {k x : Nat}, (n :: (l ++ [n]))[k]? = some x → x ≤ n := by
    intro k x hx
    have := List.mem_of_getElem? hx
    simp at this
    rcases this with h | h | h
    · omega
    · exact Nat.le_of_lt (r.low x h)
    · omega
  by_cases hn : i = n
  · subst hn
    constructor
    · rw [ring_last r]
      split
      · exact Nat.le_refl _
      · exact Nat.le_of_lt (r.low _ (List.getLast_mem _))
    · rw [ring_first_is r]
      unfold nth
      cases e : l[0]? with
      | none => exact Nat.le_refl _
      | some x => exact Nat.le_of_lt (r.low x (List.mem_of_getElem? e))
  · by_cases hi : i ∈ l
    · obtain ⟨k, hk, e⟩ := List.getElem_of_mem hi
      have h1 : (n :: (l ++ [n]))[k + 1]? = some i := by
        rw [List.getElem?_cons_succ, List.getElem?_append_left hk]; simp [hk, e]
      constructor
      · obtain ⟨y, hy⟩ : ∃ y, (n :: (l ++ [n]))[k]? = some y := ⟨_, List.getElem?_eq_getElem (by simp; omega)⟩
        rw [(chain_at r.chain hy h1).2]
        exact hs hy
      · obtain ⟨y, hy⟩ : ∃ y, (n :: (l ++ [n]))[k + 1 + 1]? = some y := ⟨_, List.getElem?_eq_getElem (by simp; omega)⟩
        rw [(chain_at r.chain h1 hy).1]
        exact hs hy
    · obtain ⟨h1, h2⟩ := r.out i (by omega) hi
      omega
/- Whether a number is there is told by who stands behind it. -/
theorem ring_there (r : Ring n A B l) {i : Nat} (h : i < n) : B i = i ↔ i ∉ l := by
  constructor
  · intro e hi
    obtain ⟨k, hk, e2⟩ := List.getElem_of_mem hi
    have h1 := ring_next r hk
    rw [nth_lt hk, e2, e] at h1
    by_cases h2 : k + 1 < l.length
    · rw [nth_lt h2] at h1
      have := (List.getElem_inj r.once).1 (e2.trans h1)
      omega
    · rw [nth_ge (by omega)] at h1
      omega
  · intro hi
    exact (r.out i h hi).2
theorem ends (l : List Nat) (n : Nat) : ∃ P a, n :: l = P ++ [a] := ⟨(n :: l).dropLast, (n :: l).getLast (by simp), (List.dropLast_concat_getLast (by simp)).symm⟩
theorem heads (l : List Nat) (n : Nat) : ∃ b Q, l ++ [n] = b :: Q := by
  cases l with
  | nil => exact ⟨n, [], rfl⟩
  | cons x t => exact ⟨x, t ++ [n], rfl⟩
theorem upd_same (f : Nat → Nat) {a : Nat} (h : f a = a) : upd f a a = f := by
  funext x
  unfold upd
  split
  · rename_i e; rw [e, h]
  · rfl
/- A number taken out. -/
theorem ring_out (r : Ring n A B l) {i : Nat} (h : i < n) : Ring n (upd (upd A (B i) (A i)) i i) (upd (upd B (A i) (B i)) i i) (wo l i) := by
  by_cases hi : i ∈ l
  · obtain ⟨p, q, rfl⟩ := List.append_of_mem hi
    obtain ⟨P, a, hP⟩ := ends p n
    obtain ⟨b, Q, hQ⟩ := heads q n
    have once := r.once
    obtain ⟨n1, n2, n3⟩ := List.nodup_append.1 once
    obtain ⟨n4, n5⟩ := List.nodup_cons.1 n2
    have hnn := ring_none r
    have hip : i ∉ p := fun hx => n3 i hx i (by simp) rfl
    have hnp : n ∉ p := fun hx => hnn (by simp [hx])
    have hnq : n ∉ q := fun hx => hnn (by simp [hx])
    have hin : i ≠ n := by omega
    have hpq : ∀ x, x ∈ p → x ∉ q := fun x h1 h2 => n3 x h1 x (by simp [h2]) rfl
    have e1 : n :: ((p ++ i :: q) ++ [n]) = P ++ a :: i :: b :: Q := by
      rw [List.append_assoc, List.cons_append, hQ, ← List.cons_append, hP]; simp
    have hc := r.chain
    rw [e1, chain_join] at hc
    obtain ⟨hc1, ha1, ha2, hb1, hb2, hc2⟩ := hc
    have e2 : n :: (wo (p ++ i :: q) i ++ [n]) = P ++ a :: b :: Q := by
      rw [wo_mid once, List.append_assoc, hQ, ← List.cons_append, hP]; simp
    have haM : a ∈ n :: p := by rw [hP]; simp
    have hbM : b ∈ q ++ [n] := by rw [hQ]; simp
    have ndP : (n :: p).Nodup := List.nodup_cons.2 ⟨hnp, n1⟩
    have ndQ : (q ++ [n]).Nodup := List.nodup_append.2 ⟨n5, by simp, fun x hx y hy => by simp at hy; subst hy; rintro rfl; exact hnq hx⟩
    rw [hP] at ndP
    rw [hQ] at ndQ
    have haP : a ∉ P := fun hx => (List.nodup_append.1 ndP).2.2 a hx a (by simp) rfl
    have hbQ : b ∉ Q := (List.nodup_cons.1 ndQ).1
    have hai : a ≠ i := by
      rintro rfl
      rcases List.mem_cons.1 haM with e | e
      · exact hin e
      · exact hip e
    have hbi : b ≠ i := by
      rintro rfl
      rcases List.mem_append.1 hbM with e | e
      · exact n4 e
      · exact hin (by simpa using e)
    rw [ha2, hb1]
    refine ⟨?_, wo_nodup once, fun x hx => r.low x (mem_wo.1 hx).1, fun x hx hn => ?_⟩
    · rw [e2, chain_join]
      refine ⟨chain_congr _ (fun x hx => ?_) (fun x hx => ?_) hc1, ?_, ?_, chain_congr _ (fun x hx => ?_) (fun x hx => ?_) hc2⟩
      · rw [List.dropLast_append_of_ne_nil (by simp)] at hx
        have hxP : x ∈ P := by simpa using hx
        clear hx
        have hxM : x ∈ n :: p := by rw [hP]; simp [hxP]
        have h1 : x ≠ i := by
          rintro rfl
          rcases List.mem_cons.1 hxM with e | e
          · exact hin e
          · exact hip e
        rw [upd_ne _ _ h1, upd_ne _ _ (by rintro rfl; exact haP hxP)]
      · rw [← hP] at hx
        have hx : x ∈ p := hx
        rw [upd_ne _ _ (by rintro rfl; exact hip hx), upd_ne]
        rintro rfl
        rcases List.mem_append.1 hbM with e | e
        · exact hpq x hx e
        · exact hnp (by simp at e; rw [← e]; exact hx)
      · rw [upd_ne _ _ hai, upd_at]
      · rw [upd_ne _ _ hbi, upd_at]
      · rw [← hQ, List.dropLast_concat] at hx
        rw [upd_ne _ _ (by rintro rfl; exact n4 hx), upd_ne]
        rintro rfl
        rcases List.mem_cons.1 haM with e | e
        · exact hnq (e ▸ hx)
        · exact hpq x e hx
      · have hx : x ∈ Q := hx
        have hxM : x ∈ q ++ [n] := by rw [hQ]; simp [hx]
        have h1 : x ≠ i := by
          rintro rfl
          rcases List.mem_append.1 hxM with e | e
          · exact n4 e
          · exact hin (by simpa using e)
        rw [upd_ne _ _ h1, upd_ne _ _ (by rintro rfl; exact hbQ hx)]
    · by_cases e : x = i
      · subst e
        exact ⟨upd_at _ _ _, upd_at _ _ _⟩
      · have hxl : x ∉ p ++ i :: q := fun hx => hn (mem_wo.2 ⟨hx, e⟩)
        obtain ⟨o1, o2⟩ := r.out x hx hxl
        have hxa : x ≠ a := by
          rintro rfl
          rcases List.mem_cons.1 haM with e | e
          · omega
          · exact hxl (by simp [e])
        have hxb : x ≠ b := by
          rintro rfl
          rcases List.mem_append.1 hbM with e | e
          · exact hxl (by simp [e])
          · simp at e; omega
        rw [upd_ne _ _ e, upd_ne _ _ e, upd_ne _ _ hxb, upd_ne _ _ hxa]
        exact ⟨o1, o2⟩
  · obtain ⟨h1, h2⟩ := r.out i h hi
    rw [h1, h2, upd_same A h1, upd_same A h1, upd_same B h2, upd_same B h2, wo_not hi]
    exact r
/- A number put first. -/
theorem ring_put (r : Ring n A B l) {i : Nat} (h : i < n) (hi : i ∉ l) : Ring n (upd (upd A i n) (B n) i) (upd (upd B i (B n)) n i) (i :: l) := by
  obtain ⟨s, Q, hQ⟩ := heads l n
  have hc := r.chain
  rw [hQ] at hc
  obtain ⟨hs, hs2, hc⟩ := hc
  have hin : i ≠ n := by omega
  have hnn := ring_none r
  have hsM : s ∈ l ++ [n] := by rw [hQ]; simp
  have hsi : s ≠ i := by
    rintro rfl
    rcases List.mem_append.1 hsM with e | e
    · exact hi e
    · exact hin (by simpa using e)
  have nd : (l ++ [n]).Nodup := List.nodup_append.2 ⟨r.once, by simp, fun x hx y hy => by simp at hy; subst hy; rintro rfl; exact hnn hx⟩
  rw [hQ] at nd
  have hsQ : s ∉ Q := (List.nodup_cons.1 nd).1
  rw [hs]
  refine ⟨?_, List.nodup_cons.2 ⟨hi, r.once⟩, fun x hx => ?_, fun x hx hn => ?_⟩
  · rw [List.cons_append, hQ]
    refine ⟨upd_at _ _ _, ?_, ?_, ?_, chain_congr _ (fun x hx => ?_) (fun x hx => ?_) hc⟩
    · rw [upd_ne _ _ (Ne.symm hsi), upd_at]
    · rw [upd_ne _ _ hin, upd_at]
    · rw [upd_at]
    · rw [← hQ, List.dropLast_concat] at hx
      rw [upd_ne _ _ (by rintro rfl; exact hnn hx), upd_ne _ _ (by rintro rfl; exact hi hx)]
    · have hx : x ∈ Q := hx
      have hxM : x ∈ l ++ [n] := by rw [hQ]; simp [hx]
      have h1 : x ≠ i := by
        rintro rfl
        rcases List.mem_append.1 hxM with e | e
        · exact hi e
        · exact hin (by simpa using e)
      rw [upd_ne _ _ (by rintro rfl; exact hsQ hx), upd_ne _ _ h1]
  · rcases List.mem_cons.1 hx with e | e
    · omega
    · exact r.low x e
  · have h1 : x ≠ i := by rintro rfl; exact hn (by simp)
    have h2 : x ∉ l := fun e => hn (by simp [e])
    have h3 : x ≠ n := by omega
    have h4 : x ≠ s := by
      rintro rfl
      rcases List.mem_append.1 hsM with e | e
      · exact h2 e
      · exact h3 (by simpa using e)
    rw [upd_ne _ _ h4, upd_ne _ _ h1, upd_ne _ _ h3, upd_ne _ _ h1]
    exact r.out x hx h2
end
end Go.Proofs.YthgbdaladngpdaaGreat.Lru
