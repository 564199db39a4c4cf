/- The plain mathematics of hints: a row of records by rising keys, each with the nodes that have it. No condition but those that are stated. -/
import Derived.Test.YtahgplfkgijecaaRec
import Derived.Test.YtahgplfkgijecaaRingMath
namespace Go.Proofs.Ytahgplfkgijecaa
set_option linter.unusedVariables false
set_option linter.unusedSimpArgs false

/- A hint: a record, who has it. -/
structure Ht where
  r : R
  has : Nat → Bool
structure Snd where
  to : Int
  r : R
def nob : Nat → Bool := fun _ => false
/- The first of a key. -/
def fnd (k : ByteArray) : List Ht → Option Nat
  | [] => none
  | h :: t => if h.r.key = k then some 0 else (fnd k t).map (· + 1)
theorem fnd_none {k : ByteArray} : ∀ {l : List Ht}, fnd k l = none → ∀ h ∈ l, h.r.key ≠ k
  | [], _, h, hm => by simp at hm
  | x :: t, hf, h, hm => by
    unfold fnd at hf
    by_cases e : x.r.key = k
    · rw [if_pos e] at hf; cases hf
    · rw [if_neg e] at hf
      rcases List.mem_cons.1 hm with rfl | hm
      · exact e
      · refine fnd_none ?_ h hm
        cases hq : fnd k t with
        | none => rfl
        | some i => rw [hq] at hf; cases hf
theorem fnd_some {k : ByteArray} : ∀ {l : List Ht} {i : Nat}, fnd k l = some i → ∃ h, l[i]? = some h ∧ h.r.key = k ∧ ∀ (j : Nat) (g : Ht), j < i → l[j]? = some g → g.r.key ≠ k
  | [], i, hf => by cases hf
  | x :: t, i, hf => by
    unfold fnd at hf
    by_cases e : x.r.key = k
    · rw [if_pos e] at hf
      injection hf with hf
      subst hf
      exact ⟨x, rfl, e, fun j g hj => by omega⟩
    · rw [if_neg e] at hf
      cases hq : fnd k t with
      | none => rw [hq] at hf; cases hf
      | some i' =>
        rw [hq] at hf
        injection hf with hf
        subst hf
        obtain ⟨h, h1, h2, h3⟩ := fnd_some hq
        refine ⟨h, by simpa using h1, h2, fun j g hj hg => ?_⟩
        cases j with
        | zero => simp at hg; subst hg; exact e
        | succ j =>
          have hj2 : j + 1 < i' + 1 := hj
          exact h3 j g (by omega) (by simpa using hg)
theorem fnd_lt {k : ByteArray} {l : List Ht} {i : Nat} (h : fnd k l = some i) : i < l.length := by
  obtain ⟨g, hg, _⟩ := fnd_some h
  exact (List.getElem?_eq_some_iff.1 hg).1
theorem fnd_of {k : ByteArray} {l : List Ht} {i : Nat} {g : Ht} (hg : l[i]? = some g) (hk : g.r.key = k) (hb : ∀ (j : Nat) (x : Ht), j < i → l[j]? = some x → x.r.key ≠ k) : fnd k l = some i := by
  cases hq : fnd k l with
  | none => exact absurd hk (fnd_none hq g (List.mem_of_getElem? hg))
  | some j =>
    obtain ⟨x, h1, h2, h3⟩ := fnd_some hq
    congr 1
    rcases Nat.lt_trichotomy i j with e | e | e
    · exact absurd hk (h3 i g e hg)
    · exact e.symm
    · exact absurd h2 (hb j x e h1)
/- Rising keys. -/
def Rise : List Ht → Prop
  | [] => True
  | h :: t => (∀ g ∈ t, cmpB h.r.key g.r.key < 0) ∧ Rise t
theorem cmpB_ne {a b : ByteArray} (h : cmpB a b < 0) : a ≠ b := fun e => by rw [(cmpB_zero a b).2 e] at h; omega
theorem cmpB_flip (a b : ByteArray) : cmpB b a = - cmpB a b := good_bytes.neg a b
theorem cmpB_lt_trans {a b c : ByteArray} (h : cmpB a b < 0) (g : cmpB b c < 0) : cmpB a c < 0 := by
  have h1 := good_bytes.tr a b c (by omega) (by omega)
  rcases good_bytes.one a c with e | e | e
  · omega
  · have e2 := (cmpB_zero a c).1 e
    subst e2
    have := cmpB_flip a b
    omega
  · have := h1.1; omega
theorem rise_once {k : ByteArray} : ∀ {l : List Ht}, Rise l → ∀ (i j : Nat) (g h : Ht), l[i]? = some g → l[j]? = some h → i < j → cmpB g.r.key h.r.key < 0
  | [], _, i, j, g, h, hg, _, _ => by simp at hg
  | x :: t, hr, 0, j + 1, g, h, hg, hh, _ => by
    simp at hg
    subst hg
    exact hr.1 h (List.mem_of_getElem? (by simpa using hh))
  | x :: t, hr, i + 1, j + 1, g, h, hg, hh, hij => rise_once (k := k) hr.2 i j g h (by simpa using hg) (by simpa using hh) (by omega)
  | x :: t, hr, i, 0, g, h, hg, hh, hij => by omega
def insH (r : R) : List Ht → List Ht
  | [] => [⟨r, nob⟩]
  | h :: t => if cmpB r.key h.r.key < 0 then ⟨r, nob⟩ :: h :: t else h :: insH r t
theorem ins_mem {r : R} {x : Ht} : ∀ {l : List Ht}, x ∈ insH r l ↔ x = ⟨r, nob⟩ ∨ x ∈ l
  | [] => by simp [insH]
  | h :: t => by
    unfold insH
    by_cases e : cmpB r.key h.r.key < 0
    · rw [if_pos e]; simp
    · rw [if_neg e, List.mem_cons, ins_mem]
      constructor
      · rintro (h1 | h1 | h1)
        · exact .inr (by simp [h1])
        · exact .inl h1
        · exact .inr (by simp [h1])
      · rintro (h1 | h1)
        · exact .inr (.inl h1)
        · rcases List.mem_cons.1 h1 with h1 | h1
          · exact .inl h1
          · exact .inr (.inr h1)
theorem ins_len (r : R) : ∀ l : List Ht, (insH r l).length = l.length + 1
  | [] => rfl
  | h :: t => by
    unfold insH
    split
    · simp
    · simp [ins_len r t]
theorem ins_rise {r : R} : ∀ {l : List Ht}, Rise l → (∀ h ∈ l, h.r.key ≠ r.key) → Rise (insH r l)
  | [], _, _ => ⟨by simp, trivial⟩
  | h :: t, hr, hn => by
    unfold insH
    by_cases e : cmpB r.key h.r.key < 0
    · rw [if_pos e]
      refine ⟨fun g hg => ?_, hr⟩
      rcases List.mem_cons.1 hg with rfl | hg
      · exact e
      · exact cmpB_lt_trans e (hr.1 g hg)
    · rw [if_neg e]
      refine ⟨fun g hg => ?_, ins_rise hr.2 (fun x hx => hn x (List.mem_cons_of_mem _ hx))⟩
      rcases ins_mem.1 hg with rfl | hg
      · show cmpB h.r.key r.key < 0
        have h1 := cmpB_flip h.r.key r.key
        rcases good_bytes.one h.r.key r.key with q | q | q
        · omega
        · exact absurd ((cmpB_zero _ _).1 q) (hn h (by simp))
        · omega
      · exact hr.1 g hg
theorem rise_set {r : R} {f : Nat → Bool} : ∀ {l : List Ht} {i : Nat} {g : Ht}, Rise l → l[i]? = some g → g.r.key = r.key → Rise (l.set i ⟨r, f⟩)
  | [], i, g, _, hg, _ => by simp at hg
  | x :: t, 0, g, hr, hg, hk => by
    simp at hg
    subst hg
    refine ⟨fun y hy => ?_, hr.2⟩
    show cmpB r.key y.r.key < 0
    rw [← hk]; exact hr.1 y hy
  | x :: t, i + 1, g, hr, hg, hk => by
    have hg' : t[i]? = some g := by simpa using hg
    refine ⟨fun y hy => ?_, rise_set hr.2 hg' hk⟩
    rcases List.mem_or_eq_of_mem_set hy with hy | rfl
    · exact hr.1 y hy
    · show cmpB x.r.key r.key < 0
      rw [← hk]; exact hr.1 g (List.mem_of_getElem? hg')
theorem rise_filter {p : Ht → Bool} : ∀ {l : List Ht}, Rise l → Rise (l.filter p)
  | [], _ => trivial
  | x :: t, hr => by
    rw [List.filter_cons]
    split
    · exact ⟨fun y hy => hr.1 y (List.mem_filter.1 hy).1, rise_filter hr.2⟩
    · exact rise_filter hr.2
/- Add. -/
def badA (r : R) : Bool := !mayR r || decide (r.kind = 3)
def addE (n : Nat) (l : List Ht) (r : R) : Int := if badA r then 1 else match fnd r.key l with
  | some _ => 0
  | none => if n ≤ l.length then 6 else 0
def newer (l : List Ht) (i : Nat) (r : R) : Bool := match l[i]? with
  | none => false
  | some h => decide (cmpR h.r r < 0)
def addL (n : Nat) (l : List Ht) (r : R) : List Ht := if badA r then l else match fnd r.key l with
  | some i => if newer l i r then l.set i ⟨r, nob⟩ else l
  | none => if n ≤ l.length then l else insH r l
/- Ack. -/
def fits (l : List Ht) (i : Nat) (s : Stp) (k : Nat) : Bool := match l[i]? with
  | none => false
  | some h => !lt s h.r.s && !h.has k
def mayK (l : List Ht) (key : ByteArray) (s : Stp) (node : Int) : Bool := match fnd key l with
  | none => false
  | some i => decide (node ≤ 63) && fits l i s node.toNat
def more (f : Nat → Bool) (k : Nat) : Nat → Bool := fun q => f q || decide (q = k)
def ackAt (l : List Ht) (i k : Nat) : List Ht := match l[i]? with
  | none => l
  | some h => l.set i ⟨h.r, more h.has k⟩
def ackL (l : List Ht) (key : ByteArray) (s : Stp) (node : Int) : List Ht := if mayK l key s node then (match fnd key l with
  | none => l
  | some i => ackAt l i node.toNat) else l
/- Missing, Settle. -/
def missOf (up : List Int) (h : Ht) : List Snd := ((owners h.r.key up).filter (fun o => !h.has o.toNat)).map (fun o => ⟨o, h.r⟩)
def missL (l : List Ht) (up : List Int) : List Snd := l.flatMap (missOf up)
def allH (up : List Int) (h : Ht) : Bool := decide (0 < (owners h.r.key up).length) && (owners h.r.key up).all (fun o => h.has o.toNat)
def setL (l : List Ht) (up : List Int) : List Ht := l.filter (fun h => !allH up h)
/- Who has it, as a number. -/
def ackI (f : Nat → Bool) : Nat → Int
  | 0 => 0
  | k + 1 => ackI f k + (if f k then 2 ^ k else 0)
theorem ack_nob : ∀ k, ackI nob k = 0
  | 0 => rfl
  | k + 1 => by show ackI nob k + 0 = 0; rw [ack_nob k]; rfl
theorem ack_bound (f : Nat → Bool) : ∀ k, 0 ≤ ackI f k ∧ ackI f k < 2 ^ k
  | 0 => ⟨by simp [ackI], by simp [ackI]⟩
  | k + 1 => by
    have ih := ack_bound f k
    have e : (2 : Int) ^ (k + 1) = 2 * 2 ^ k := by rw [Int.pow_succ]; omega
    have hp : (0 : Int) < 2 ^ k := Int.pow_pos (by decide)
    show 0 ≤ ackI f k + (if f k then 2 ^ k else 0) ∧ ackI f k + (if f k then 2 ^ k else 0) < 2 ^ (k + 1)
    rw [e]
    split <;> omega
/- What is always so of hints with room for n. -/
structure Hg (n : Nat) (l : List Ht) : Prop where
  n1 : 1 ≤ n
  n2 : n ≤ 64
  len : l.length ≤ n
  rise : Rise l
  may : ∀ h ∈ l, mayR h.r = true ∧ h.r.kind ≠ 3 ∧ h.r.ok
theorem hg_nil {n : Nat} (h1 : 1 ≤ n) (h2 : n ≤ 64) : Hg n [] := ⟨h1, h2, Nat.zero_le _, trivial, by simp⟩
theorem bad_not {r : R} (h : badA r = false) : mayR r = true ∧ r.kind ≠ 3 := by
  unfold badA at h
  simp at h
  exact ⟨h.1, h.2⟩
theorem hg_add {n : Nat} {l : List Ht} (g : Hg n l) {r : R} (hr : r.ok) : Hg n (addL n l r) := by
  unfold addL
  by_cases hb : badA r = true
  · rw [if_pos hb]; exact g
  · rw [if_neg hb]
    obtain ⟨b1, b2⟩ := bad_not (by simpa using hb)
    cases hf : fnd r.key l with
    | none =>
      simp only
      by_cases hn : n ≤ l.length
      · rw [if_pos hn]; exact g
      · rw [if_neg hn]
        refine ⟨g.n1, g.n2, by rw [ins_len]; omega, ins_rise g.rise (fnd_none hf), fun h hm => ?_⟩
        rcases ins_mem.1 hm with rfl | hm
        · exact ⟨b1, b2, hr⟩
        · exact g.may h hm
    | some i =>
      simp only
      obtain ⟨x, hx, hk, _⟩ := fnd_some hf
      split
      · refine ⟨g.n1, g.n2, by rw [List.length_set]; exact g.len, rise_set g.rise hx hk, fun h hm => ?_⟩
        rcases List.mem_or_eq_of_mem_set hm with hm | rfl
        · exact g.may h hm
        · exact ⟨b1, b2, hr⟩
      · exact g
theorem ackL_at {l : List Ht} {key : ByteArray} {s : Stp} {node : Int} (h : mayK l key s node = true) : ∃ i x, fnd key l = some i ∧ l[i]? = some x ∧ x.r.key = key ∧ node ≤ 63 ∧ lt s x.r.s = false ∧ x.has node.toNat = false ∧ ackL l key s node = l.set i ⟨x.r, more x.has node.toNat⟩ := by
  unfold ackL
  rw [if_pos h]
  unfold mayK at h
  cases hf : fnd key l with
  | none => rw [hf] at h; cases h
  | some i =>
    rw [hf] at h
    simp only [Bool.and_eq_true, decide_eq_true_eq] at h
    obtain ⟨x, hx, hk, _⟩ := fnd_some hf
    obtain ⟨h1, h2⟩ := h
    unfold fits at h2
    rw [hx] at h2
    simp at h2
    refine ⟨i, x, rfl, hx, hk, h1, h2.1, h2.2, ?_⟩
    simp only
    unfold ackAt
    rw [hx]
theorem hg_ack {n : Nat} {l : List Ht} (g : Hg n l) (key : ByteArray) (s : Stp) (node : Int) : Hg n (ackL l key s node) := by
  by_cases h : mayK l key s node = true
  · obtain ⟨i, x, _, hx, hk, _, _, _, e⟩ := ackL_at h
    rw [e]
    refine ⟨g.n1, g.n2, by rw [List.length_set]; exact g.len, rise_set g.rise hx rfl, fun y hy => ?_⟩
    rcases List.mem_or_eq_of_mem_set hy with hy | rfl
    · exact g.may y hy
    · exact g.may x (List.mem_of_getElem? hx)
  · unfold ackL
    rw [if_neg h]; exact g
theorem hg_set {n : Nat} {l : List Ht} (g : Hg n l) (up : List Int) : Hg n (setL l up) :=
  ⟨g.n1, g.n2, Nat.le_trans (List.length_filter_le _ _) g.len, rise_filter g.rise, fun h hm => g.may h (List.mem_filter.1 hm).1⟩
end Go.Proofs.Ytahgplfkgijecaa
