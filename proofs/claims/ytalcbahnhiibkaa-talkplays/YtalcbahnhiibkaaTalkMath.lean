/- The plain mathematics of a talk: what is told next, what is left; each piece is told so often. No condition but those that are stated. -/
import Derived.Test.YtalcbahnhiibkaaState
namespace Go.Proofs.Ytalcbahnhiibkaa
set_option linter.unusedVariables false
set_option linter.unusedSimpArgs false

structure Nw where
  node : Int
  st : Int
  inc : Int
structure Pc where
  x : Nw
  told : Nat
theorem Nw.ext' {a b : Nw} (h1 : a.node = b.node) (h2 : a.st = b.st) (h3 : a.inc = b.inc) : a = b := by cases a; cases b; simp_all
/- What is told of a piece, and its news. -/
def tol (l : List Pc) (i : Nat) : Nat := match l[i]? with
  | none => 0
  | some p => p.told
def nws (l : List Pc) (i : Nat) : Nw := match l[i]? with
  | none => ⟨0, 0, 0⟩
  | some p => p.x
theorem tol_at {l : List Pc} {i : Nat} {q : Pc} (h : l[i]? = some q) : tol l i = q.told := by unfold tol; rw [h]
theorem nws_at {l : List Pc} {i : Nat} {q : Pc} (h : l[i]? = some q) : nws l i = q.x := by unfold nws; rw [h]
/- The next one: told least often, of these the first. -/
def nxt (l : List Pc) (o : Option Nat) (b : Bool) (i : Nat) : Option Nat := match o with
  | none => if b then none else some i
  | some k => if !b && decide (tol l i < tol l k) then some i else some k
def bk (l : List Pc) (was : Nat → Bool) : Nat → Option Nat
  | 0 => none
  | i + 1 => nxt l (bk l was i) (was i) i
theorem bk_next (l : List Pc) (was : Nat → Bool) (i : Nat) : bk l was (i + 1) = nxt l (bk l was i) (was i) i := rfl
theorem bk_none {l : List Pc} {was : Nat → Bool} : ∀ {n : Nat}, bk l was n = none → ∀ i, i < n → was i = true
  | 0, _, i, hi => by omega
  | n + 1, h, i, hi => by
    rw [bk_next] at h
    unfold nxt at h
    cases e : bk l was n with
    | none =>
      rw [e] at h
      cases hb : was n with
      | false => simp [hb] at h
      | true =>
        by_cases hin : i = n
        · rw [hin]; exact hb
        · exact bk_none e i (by omega)
    | some k =>
      rw [e] at h
      simp only at h
      split at h <;> cases h
theorem bk_some {l : List Pc} {was : Nat → Bool} : ∀ {n k : Nat}, bk l was n = some k → k < n ∧ was k = false ∧ ∀ i, i < n → was i = false → tol l k < tol l i ∨ (tol l k = tol l i ∧ k ≤ i)
  | 0, k, h => by cases h
  | n + 1, k, h => by
    rw [bk_next] at h
    unfold nxt at h
    cases e : bk l was n with
    | none =>
      rw [e] at h
      have hall := bk_none e
      cases hb : was n with
      | true => simp [hb] at h
      | false =>
        simp [hb] at h
        subst h
        refine ⟨by omega, hb, fun i hi hw => ?_⟩
        by_cases hin : i = n
        · subst hin; exact Or.inr ⟨rfl, Nat.le_refl _⟩
        · rw [hall i (by omega)] at hw; cases hw
    | some j =>
      rw [e] at h
      obtain ⟨h1, h2, h3⟩ := bk_some e
      simp only at h
      by_cases hc : was n = false ∧ tol l n < tol l j
      · rw [if_pos (by simp [hc.1, hc.2])] at h
        injection h with h
        subst h
        refine ⟨by omega, hc.1, fun i hi hw => ?_⟩
        by_cases hin : i = n
        · subst hin; exact Or.inr ⟨rfl, Nat.le_refl _⟩
        · have := h3 i (by omega) hw
          have := hc.2
          omega
      · rw [if_neg (by simp only [Bool.and_eq_true, Bool.not_eq_true', decide_eq_true_eq]; exact hc)] at h
        injection h with h
        subst h
        refine ⟨by omega, h2, fun i hi hw => ?_⟩
        by_cases hin : i = n
        · subst hin
          have : ¬ tol l i < tol l j := fun hh => hc ⟨hw, hh⟩
          omega
        · exact h3 i (by omega) hw
/- Which are told, in their order. -/
def mm (p : List Nat) (i : Nat) : Bool := decide (i ∈ p)
theorem mm_false {p : List Nat} {i : Nat} : mm p i = false ↔ i ∉ p := by unfold mm; simp
theorem mm_true {p : List Nat} {i : Nat} : mm p i = true ↔ i ∈ p := by unfold mm; simp
def addO (p : List Nat) (o : Option Nat) : List Nat := match o with
  | none => p
  | some k => p ++ [k]
def pks (l : List Pc) : Nat → List Nat
  | 0 => []
  | n + 1 => addO (pks l n) (bk l (mm (pks l n)) l.length)
theorem pks_next (l : List Pc) (n : Nat) : pks l (n + 1) = addO (pks l n) (bk l (mm (pks l n)) l.length) := rfl
theorem pks_more {l : List Pc} {n k : Nat} (h : bk l (mm (pks l n)) l.length = some k) : pks l (n + 1) = pks l n ++ [k] := by rw [pks_next, h]; rfl
theorem pks_same {l : List Pc} {n : Nat} (h : bk l (mm (pks l n)) l.length = none) : pks l (n + 1) = pks l n := by rw [pks_next, h]; rfl
theorem pks_stop {l : List Pc} {n : Nat} (h : bk l (mm (pks l n)) l.length = none) : ∀ m, pks l (n + m) = pks l n
  | 0 => rfl
  | m + 1 => by
    have e := pks_stop h m
    rw [← Nat.add_assoc, pks_same (by rw [e]; exact h), e]
theorem pks_ok (l : List Pc) : ∀ n, (∀ k ∈ pks l n, k < l.length) ∧ (pks l n).Nodup ∧ (pks l n).length ≤ n
  | 0 => ⟨by simp [pks], by simp [pks], by simp [pks]⟩
  | n + 1 => by
    obtain ⟨h1, h2, h3⟩ := pks_ok l n
    cases e : bk l (mm (pks l n)) l.length with
    | none => rw [pks_same e]; exact ⟨h1, h2, by omega⟩
    | some k =>
      obtain ⟨g1, g2, _⟩ := bk_some e
      rw [pks_more e]
      refine ⟨fun j hj => ?_, ?_, by simp; omega⟩
      · rw [List.mem_append] at hj
        rcases hj with hj | hj
        · exact h1 j hj
        · simp at hj; omega
      · exact List.nodup_append.2 ⟨h2, by simp, fun a ha b hb => by
          simp at hb
          subst hb
          rintro rfl
          exact mm_false.1 g2 ha⟩
theorem pks_pos {l : List Pc} {n : Nat} (hl : 0 < l.length) (hn : 1 ≤ n) : pks l n ≠ [] := by
  have h1 : pks l 1 ≠ [] := by
    cases e : bk l (mm (pks l 0)) l.length with
    | none => have := bk_none e 0 hl; simp [pks, mm] at this
    | some k => rw [pks_more e]; simp
  intro h
  obtain ⟨m, rfl⟩ : ∃ m, n = 1 + m := ⟨n - 1, by omega⟩
  have sub : ∀ m, pks l 1 <+: pks l (1 + m) := fun m => by
    induction m with
    | zero => exact List.prefix_refl _
    | succ m ih =>
      rw [← Nat.add_assoc]
      cases e : bk l (mm (pks l (1 + m))) l.length with
      | none => rw [pks_same e]; exact ih
      | some k => rw [pks_more e]; exact ih.trans (List.prefix_append _ _)
  have := sub m
  rw [h] at this
  exact h1 (List.prefix_nil.1 this)
def tellL (l : List Pc) (p : List Nat) : List Nw := p.map (nws l)
def bmp (p : List Nat) (i : Nat) (q : Pc) : Pc := if mm p i then ⟨q.x, q.told + 1⟩ else q
def bump (l : List Pc) (p : List Nat) : List Pc := l.mapIdx (bmp p)
def keep (n : Nat) (l : List Pc) : List Pc := l.filter (fun q => decide (q.told < n))
def addP (l : List Pc) (x : Nw) : List Pc := ⟨x, 0⟩ :: l.filter (fun q => q.x.node != x.node)
def takeT (l : List Pc) (k : Nat) : List Nw := tellL l (pks l k)
def takeR (l : List Pc) (n k : Nat) : List Pc := keep n (bump l (pks l k))
theorem bump_len (l : List Pc) (p : List Nat) : (bump l p).length = l.length := by unfold bump; simp
theorem bump_get (l : List Pc) (p : List Nat) (i : Nat) : (bump l p)[i]? = (l[i]?).map (bmp p i) := by unfold bump; simp
theorem bump_nil (l : List Pc) : bump l [] = l := by
  apply List.ext_getElem?
  intro i
  rw [bump_get]
  have : bmp [] i = id := by funext q; simp [bmp, mm]
  rw [this]; simp
theorem bump_set {l : List Pc} {p : List Nat} {k : Nat} {q : Pc} (h : l[k]? = some q) (hk : k ∉ p) : (bump l p).set k ⟨q.x, q.told + 1⟩ = bump l (p ++ [k]) := by
  apply List.ext_getElem?
  intro i
  rw [List.getElem?_set, bump_get, bump_get, bump_len]
  by_cases e : k = i
  · subst e
    have hlt := (List.getElem?_eq_some_iff.1 h).1
    rw [if_pos rfl, if_pos hlt, h]
    simp [bmp, mm]
  · rw [if_neg e]
    congr 1
    funext q'
    have : mm (p ++ [k]) i = mm p i := by unfold mm; simp; intro h; omega
    simp [bmp, this]
theorem bump_at {l : List Pc} {p : List Nat} {k : Nat} {q : Pc} (h : l[k]? = some q) (hk : k ∉ p) : (bump l p)[k]? = some q := by
  rw [bump_get, h]
  have : mm p k = false := mm_false.2 hk
  simp [bmp, this]
def wasL (n : Nat) (p : List Nat) : List Bool := (List.range n).map (mm p)
theorem was_len (n : Nat) (p : List Nat) : (wasL n p).length = n := by unfold wasL; simp
theorem was_get {n : Nat} (p : List Nat) {i : Nat} (h : i < n) : (wasL n p)[i]? = some (mm p i) := by unfold wasL; rw [List.getElem?_map, List.getElem?_range h]; rfl
theorem was_set {n : Nat} {p : List Nat} {k : Nat} (hk : k < n) : (wasL n p).set k true = wasL n (p ++ [k]) := by
  apply List.ext_getElem?
  intro i
  rw [List.getElem?_set, was_len]
  by_cases hi : i < n
  · rw [was_get _ hi, was_get _ hi]
    by_cases e : k = i
    · subst e
      rw [if_pos rfl, if_pos hk]
      simp [mm]
    · rw [if_neg e]
      congr 1
      unfold mm
      simp
      intro h
      omega
  · have hn : ∀ p, (wasL n p)[i]? = none := fun p => List.getElem?_eq_none (by rw [was_len]; omega)
    rw [hn, hn, if_neg (by omega)]
theorem tell_more (l : List Pc) (p : List Nat) (k : Nat) : tellL l (p ++ [k]) = tellL l p ++ [nws l k] := by unfold tellL; simp
theorem tell_len (l : List Pc) (p : List Nat) : (tellL l p).length = p.length := by unfold tellL; simp
theorem take_len (l : List Pc) (k : Nat) : (takeT l k).length ≤ k := by unfold takeT; rw [tell_len]; exact (pks_ok l k).2.2
/- What is always so. -/
def NwOk (x : Nw) : Prop := (0 ≤ x.node ∧ x.node < 256) ∧ (0 ≤ x.st ∧ x.st < 256) ∧ (0 ≤ x.inc ∧ x.inc < 4294967296)
def nodes (l : List Pc) : List Int := l.map (fun q => q.x.node)
structure Gd (n : Nat) (l : List Pc) : Prop where
  fit : ∀ q ∈ l, NwOk q.x ∧ q.x.node < 64 ∧ q.told < n
  once : (nodes l).Nodup
theorem gd_nil (n : Nat) : Gd n [] := ⟨by simp, by simp [nodes]⟩
theorem gd_add {n : Nat} {l : List Pc} {x : Nw} (h : Gd n l) (hn : 1 ≤ n) (hx : NwOk x) (hx2 : x.node < 64) : Gd n (addP l x) := by
  refine ⟨fun q hq => ?_, ?_⟩
  · unfold addP at hq
    rw [List.mem_cons] at hq
    rcases hq with rfl | hq
    · exact ⟨hx, hx2, by show 0 < n; omega⟩
    · exact h.fit q (List.mem_filter.1 hq).1
  · unfold nodes addP
    rw [List.map_cons, List.nodup_cons]
    refine ⟨fun hm => ?_, ?_⟩
    · obtain ⟨q, hq, e⟩ := List.mem_map.1 hm
      have := (List.mem_filter.1 hq).2
      simp at this
      exact this e
    · exact List.Nodup.sublist (List.Sublist.map _ List.filter_sublist) h.once
theorem bump_nodes (l : List Pc) (p : List Nat) : nodes (bump l p) = nodes l := by
  apply List.ext_getElem?
  intro i
  unfold nodes
  rw [List.getElem?_map, List.getElem?_map, bump_get]
  cases l[i]? with
  | none => rfl
  | some q => simp [bmp]; split <;> rfl
theorem bump_mem {l : List Pc} {p : List Nat} {q : Pc} (h : q ∈ bump l p) : ∃ i q', l[i]? = some q' ∧ q = bmp p i q' := by
  obtain ⟨i, hi⟩ := List.mem_iff_getElem?.1 h
  rw [bump_get] at hi
  cases e : l[i]? with
  | none => rw [e] at hi; cases hi
  | some q' => rw [e] at hi; exact ⟨i, q', e, by injection hi with hi; exact hi.symm⟩
theorem bmp_x (p : List Nat) (i : Nat) (q : Pc) : (bmp p i q).x = q.x := by unfold bmp; split <;> rfl
theorem keep_mem {n : Nat} {l : List Pc} {q : Pc} : q ∈ keep n l ↔ q ∈ l ∧ q.told < n := by unfold keep; rw [List.mem_filter, decide_eq_true_eq]
theorem gd_take {n : Nat} {l : List Pc} (h : Gd n l) (k : Nat) : Gd n (takeR l n k) := by
  refine ⟨fun q hq => ?_, ?_⟩
  · unfold takeR at hq
    obtain ⟨h1, h2⟩ := keep_mem.1 hq
    obtain ⟨i, q', e, rfl⟩ := bump_mem h1
    have := h.fit q' (List.mem_of_getElem? e)
    rw [bmp_x]
    exact ⟨this.1, this.2.1, h2⟩
  · have e := bump_nodes l (pks l k)
    have h2 := h.once
    rw [← e] at h2
    exact List.Nodup.sublist (List.Sublist.map _ List.filter_sublist) h2
theorem filt_count (m : Int) : ∀ l : List Int, (l.filter (fun n => n != m)).length + l.count m = l.length
  | [] => rfl
  | a :: l => by
    have ih := filt_count m l
    by_cases e : a = m
    · subst e
      simp [List.filter_cons, List.count_cons]
      omega
    · simp [List.filter_cons, List.count_cons, e]
      omega
theorem nodup_on {α β : Type} (f : α → β) : ∀ {p : List α}, (∀ a ∈ p, ∀ b ∈ p, f a = f b → a = b) → p.Nodup → (p.map f).Nodup
  | [], _, _ => by simp
  | a :: p, h, hd => by
    rw [List.nodup_cons] at hd
    rw [List.map_cons, List.nodup_cons]
    refine ⟨fun hm => ?_, nodup_on f (fun x hx y hy e => h x (List.mem_cons_of_mem _ hx) y (List.mem_cons_of_mem _ hy) e) hd.2⟩
    obtain ⟨b, hb, e⟩ := List.mem_map.1 hm
    have := h a (by simp) b (List.mem_cons_of_mem _ hb) e.symm
    rw [this] at hd
    exact hd.1 hb
theorem few : ∀ (m : Nat) (l : List Int), l.Nodup → (∀ n ∈ l, 0 ≤ n ∧ n < (m : Int)) → l.length ≤ m
  | 0, l, _, h => by
    cases l with
    | nil => simp
    | cons a l => have := h a (by simp); omega
  | m + 1, l, hd, h => by
    have ih := few m (l.filter (fun n => n != (m : Int))) (hd.sublist List.filter_sublist) (fun n hn => by
      obtain ⟨h1, h2⟩ := List.mem_filter.1 hn
      have := h n h1
      simp at h2
      omega)
    have hc : l.count (m : Int) ≤ 1 := List.nodup_iff_count.1 hd _
    have hs := filt_count (m : Int) l
    omega
theorem gd_len {n : Nat} {l : List Pc} (h : Gd n l) : l.length ≤ 64 := by
  have := few 64 (nodes l) h.once (fun x hx => by
    obtain ⟨q, hq, rfl⟩ := List.mem_map.1 hx
    have := h.fit q hq
    exact ⟨this.1.1.1, this.2.1⟩)
  unfold nodes at this
  simpa using this
/- What is told is there. -/
theorem tell_mem {l : List Pc} {p : List Nat} (hp : ∀ k ∈ p, k < l.length) {x : Nw} (h : x ∈ tellL l p) : ∃ k q, k ∈ p ∧ l[k]? = some q ∧ q.x = x := by
  unfold tellL at h
  obtain ⟨k, hk, rfl⟩ := List.mem_map.1 h
  have hlt := hp k hk
  have e := List.getElem?_eq_getElem hlt
  exact ⟨k, l[k], hk, e, (nws_at e).symm⟩
theorem take_mem {l : List Pc} {k : Nat} {x : Nw} (h : x ∈ takeT l k) : ∃ i q, i ∈ pks l k ∧ l[i]? = some q ∧ q.x = x := tell_mem (pks_ok l k).1 h
theorem nodes_inj {l : List Pc} (h : (nodes l).Nodup) {i j : Nat} {p q : Pc} (hi : l[i]? = some p) (hj : l[j]? = some q) (e : p.x.node = q.x.node) : i = j := by
  have h1 : (nodes l)[i]? = some p.x.node := by unfold nodes; rw [List.getElem?_map, hi]; rfl
  have h2 : (nodes l)[j]? = some q.x.node := by unfold nodes; rw [List.getElem?_map, hj]; rfl
  have hl := (List.getElem?_eq_some_iff.1 h1).1
  exact (List.getElem?_inj hl h).1 (h1.trans (by rw [h2, e]))
theorem take_once {n : Nat} {l : List Pc} (h : Gd n l) (k : Nat) : ((takeT l k).map Nw.node).Nodup := by
  unfold takeT tellL
  rw [List.map_map]
  obtain ⟨h1, h2, _⟩ := pks_ok l k
  refine nodup_on _ (fun a ha b hb e => ?_) h2
  have ea := List.getElem?_eq_getElem (h1 a ha)
  have eb := List.getElem?_eq_getElem (h1 b hb)
  simp only [Function.comp] at e
  rw [nws_at ea, nws_at eb] at e
  exact nodes_inj h.once ea eb e
end Go.Proofs.Ytalcbahnhiibkaa
