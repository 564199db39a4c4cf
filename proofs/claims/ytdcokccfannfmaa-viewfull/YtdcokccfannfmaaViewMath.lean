/- The plain mathematics of views: what is heard, what changes, what is believed behind all news. No condition but those that are stated. -/
import Derived.Test.YtdcokccfannfmaaState
namespace Go.Proofs.Ytdcokccfannfmaa
set_option linter.unusedVariables false
set_option linter.unusedSimpArgs false

structure M where
  st : Int
  inc : Int
structure Nw where
  node : Int
  m : M
theorem M.ext' {a b : M} (h1 : a.st = b.st) (h2 : a.inc = b.inc) : a = b := by cases a; cases b; simp_all
def sameM (a b : M) : Bool := decide (a.st = b.st) && decide (a.inc = b.inc)
theorem sameM_iff (a b : M) : sameM a b = true ↔ a = b := by
  unfold sameM
  rw [Bool.and_eq_true, decide_eq_true_eq, decide_eq_true_eq]
  exact ⟨fun h => M.ext' h.1 h.2, fun h => by rw [h]; exact ⟨rfl, rfl⟩⟩
theorem sameM_false (a b : M) : sameM a b = false ↔ a ≠ b := by rw [ne_eq, ← sameM_iff]; simp
/- It is newer. -/
def Nr (a b : M) : Prop := b.inc < a.inc ∨ (a.inc = b.inc ∧ b.st < a.st)
def nwr (a b : M) : Bool := decide (b.inc < a.inc) || (decide (a.inc = b.inc) && decide (b.st < a.st))
theorem nwr_iff (a b : M) : nwr a b = true ↔ Nr a b := by
  unfold nwr Nr
  rw [Bool.or_eq_true, Bool.and_eq_true, decide_eq_true_eq, decide_eq_true_eq, decide_eq_true_eq]
theorem nwr_false (a b : M) : nwr a b = false ↔ ¬ Nr a b := by rw [← nwr_iff]; simp
theorem nr_irrefl (a : M) : ¬ Nr a a := by unfold Nr; omega
theorem nr_trans {a b c : M} (h : Nr a b) (k : Nr b c) : Nr a c := by unfold Nr at *; omega
theorem nr_total {a b : M} (h : ¬ Nr a b) (k : ¬ Nr b a) : a = b := by
  unfold Nr at *
  exact M.ext' (by omega) (by omega)
theorem nr_not {a b c : M} (h : ¬ Nr a b) (k : ¬ Nr b c) : ¬ Nr a c := by unfold Nr at *; omega
/- News that are some. -/
def val (x : M) : Bool := decide (1 ≤ x.st) && decide (x.st ≤ 4)
def okM (m : M) : Prop := (0 ≤ m.st ∧ m.st < 256) ∧ 0 ≤ m.inc ∧ m.inc < 4294967296
def okN (x : Nw) : Prop := (0 ≤ x.node ∧ x.node < 256) ∧ okM x.m
/- What a member is behind news. -/
def selfM (x was : M) : M := if was.inc < x.inc ∨ (x.inc = was.inc ∧ x.st ≠ 1) then ⟨1, if x.inc < 4294967295 then x.inc + 1 else x.inc⟩ else was
def nextM (self : Int) (x : Nw) (was : M) : M := if x.node = self then selfM x.m was else if nwr x.m was then x.m else was
theorem selfM_ok {x was : M} (hx : okM x) (hw : okM was) : okM (selfM x was) := by
  unfold selfM
  split
  · unfold okM at *
    simp only
    split <;> omega
  · exact hw
theorem nextM_ok {self : Int} {x : Nw} {was : M} (hx : okN x) (hw : okM was) : okM (nextM self x was) := by
  unfold nextM
  split
  · exact selfM_ok hx.2 hw
  · split
    · exact hx.2
    · exact hw
/- The view and what has changed, behind one piece of news. -/
def stepV (self : Int) (v : List M) (x : Nw) : List M :=
  match v[x.node.toNat]? with
  | none => v
  | some was => if val x.m then v.set x.node.toNat (nextM self x was) else v
def stepC (self : Int) (v : List M) (x : Nw) : List Nw :=
  match v[x.node.toNat]? with
  | none => []
  | some was => if val x.m && !sameM (nextM self x was) was then [⟨x.node, nextM self x was⟩] else []
def hearV (self : Int) : List M → List Nw → List M
  | v, [] => v
  | v, x :: l => hearV self (stepV self v x) l
def hearC (self : Int) : List M → List Nw → List Nw
  | v, [] => []
  | v, x :: l => stepC self v x ++ hearC self (stepV self v x) l
section
variable {self : Int}
theorem hearV_snoc : ∀ (l : List Nw) (v : List M) (x : Nw), hearV self v (l ++ [x]) = stepV self (hearV self v l) x
  | [], v, x => rfl
  | y :: l, v, x => hearV_snoc l (stepV self v y) x
theorem hearC_snoc : ∀ (l : List Nw) (v : List M) (x : Nw), hearC self v (l ++ [x]) = hearC self v l ++ stepC self (hearV self v l) x
  | [], v, x => by unfold hearC hearV; simp [hearC]
  | y :: l, v, x => by
    show stepC self v y ++ hearC self (stepV self v y) (l ++ [x]) = (stepC self v y ++ hearC self (stepV self v y) l) ++ stepC self (hearV self (stepV self v y) l) x
    rw [hearC_snoc l (stepV self v y) x, List.append_assoc]
theorem stepV_len (v : List M) (x : Nw) : (stepV self v x).length = v.length := by
  unfold stepV
  split
  · rfl
  · split <;> simp
theorem hearV_len : ∀ (l : List Nw) (v : List M), (hearV self v l).length = v.length
  | [], v => rfl
  | x :: l, v => (hearV_len l (stepV self v x)).trans (stepV_len v x)
theorem stepC_len (v : List M) (x : Nw) : (stepC self v x).length ≤ 1 := by
  unfold stepC
  split
  · simp
  · split <;> simp
theorem hearC_len : ∀ (l : List Nw) (v : List M), (hearC self v l).length ≤ l.length
  | [], v => by simp [hearC]
  | x :: l, v => by
    have h1 := hearC_len l (stepV self v x)
    have h2 := stepC_len (self := self) v x
    unfold hearC
    rw [List.length_append, List.length_cons]
    omega
/- One member behind one piece of news. -/
theorem stepV_get (v : List M) (x : Nw) (i : Nat) {m : M} (h : v[i]? = some m) : (stepV self v x)[i]? = some (if x.node.toNat = i ∧ val x.m = true then nextM self x m else m) := by
  unfold stepV
  cases hw : v[x.node.toNat]? with
  | none =>
    have : x.node.toNat ≠ i := fun e => by rw [e, h] at hw; cases hw
    simp [this, h]
  | some was =>
    simp only
    cases hv : val x.m with
    | false => simp [h]
    | true =>
      by_cases e : x.node.toNat = i
      · subst e
        rw [h] at hw
        injection hw with hw
        subst hw
        have hl := (List.getElem?_eq_some_iff.1 h).1
        simp [hl]
      · rw [if_pos rfl, List.getElem?_set_ne e, h]
        simp [e]
/- Of another node: the newest. -/
def newest (i : Nat) : M → List Nw → M
  | m, [] => m
  | m, x :: l => newest i (if x.node.toNat = i ∧ val x.m = true ∧ nwr x.m m = true then x.m else m) l
theorem hearV_get {i : Nat} (hi : (i : Int) ≠ self) : ∀ (l : List Nw) (v : List M) (m : M), (∀ x ∈ l, 0 ≤ x.node) → v[i]? = some m → (hearV self v l)[i]? = some (newest i m l)
  | [], v, m, _, h => h
  | x :: l, v, m, hn, h => by
    unfold hearV newest
    refine hearV_get hi l _ _ (fun y hy => hn y (List.mem_cons_of_mem _ hy)) ?_
    rw [stepV_get v x i h]
    congr 1
    have h0 := hn x (by simp)
    by_cases e : x.node.toNat = i
    · have hs : x.node ≠ self := fun es => hi (by omega)
      unfold nextM
      rw [if_neg hs]
      cases val x.m <;> cases nwr x.m m <;> simp [e]
    · simp [e]
theorem newest_is (i : Nat) : ∀ (l : List Nw) (m : M), (newest i m l = m ∨ Nr (newest i m l) m) ∧ (newest i m l = m ∨ ∃ x ∈ l, x.node.toNat = i ∧ val x.m = true ∧ newest i m l = x.m) ∧ ∀ x ∈ l, x.node.toNat = i → val x.m = true → ¬ Nr x.m (newest i m l)
  | [], m => ⟨.inl rfl, .inl rfl, fun x hx => by cases hx⟩
  | x :: l, m => by
    unfold newest
    by_cases c : x.node.toNat = i ∧ val x.m = true ∧ nwr x.m m = true
    · rw [if_pos c]
      obtain ⟨h1, h2, h3⟩ := newest_is i l x.m
      have hN := (nwr_iff _ _).1 c.2.2
      refine ⟨.inr ?_, .inr ?_, fun y hy e hv => ?_⟩
      · rcases h1 with h1 | h1
        · rw [h1]; exact hN
        · exact nr_trans h1 hN
      · rcases h2 with h2 | ⟨y, hy, h4⟩
        · exact ⟨x, by simp, c.1, c.2.1, h2⟩
        · exact ⟨y, List.mem_cons_of_mem _ hy, h4⟩
      · rcases List.mem_cons.1 hy with rfl | hy
        · rcases h1 with h1 | h1
          · rw [h1]; exact nr_irrefl _
          · unfold Nr at *; omega
        · exact h3 y hy e hv
    · rw [if_neg c]
      obtain ⟨h1, h2, h3⟩ := newest_is i l m
      refine ⟨h1, ?_, fun y hy e hv => ?_⟩
      · rcases h2 with h2 | ⟨y, hy, h4⟩
        · exact .inl h2
        · exact .inr ⟨y, List.mem_cons_of_mem _ hy, h4⟩
      · rcases List.mem_cons.1 hy with rfl | hy
        · have hx : ¬ Nr y.m m := fun g => c ⟨e, hv, (nwr_iff _ _).2 g⟩
          rcases h1 with h1 | h1
          · rw [h1]; exact hx
          · unfold Nr at *; omega
        · exact h3 y hy e hv
/- It hangs on which news there are alone. -/
theorem newest_ext (i : Nat) {l l' : List Nw} (h : ∀ x, x ∈ l ↔ x ∈ l') (m : M) : newest i m l = newest i m l' := by
  obtain ⟨a1, a2, a3⟩ := newest_is i l m
  obtain ⟨b1, b2, b3⟩ := newest_is i l' m
  refine nr_total (fun g => ?_) (fun g => ?_)
  · rcases a2 with a2 | ⟨x, hx, e, hv, a2⟩
    · rw [a2] at g
      rcases b1 with b1 | b1
      · rw [b1] at g; exact nr_irrefl _ g
      · unfold Nr at *; omega
    · rw [a2] at g
      exact b3 x ((h x).1 hx) e hv g
  · rcases b2 with b2 | ⟨x, hx, e, hv, b2⟩
    · rw [b2] at g
      rcases a1 with a1 | a1
      · rw [a1] at g; exact nr_irrefl _ g
      · unfold Nr at *; omega
    · rw [b2] at g
      exact a3 x ((h x).2 hx) e hv g
/- Self. -/
def selfN : M → List Nw → Nat → M
  | m, [], _ => m
  | m, x :: l, i => selfN (if x.node.toNat = i ∧ val x.m = true then selfM x.m m else m) l i
theorem hearV_self {i : Nat} (hi : (i : Int) = self) : ∀ (l : List Nw) (v : List M) (m : M), (∀ x ∈ l, 0 ≤ x.node) → v[i]? = some m → (hearV self v l)[i]? = some (selfN m l i)
  | [], v, m, _, h => h
  | x :: l, v, m, hn, h => by
    unfold hearV selfN
    refine hearV_self hi l _ _ (fun y hy => hn y (List.mem_cons_of_mem _ hy)) ?_
    rw [stepV_get v x i h]
    congr 1
    have h0 := hn x (by simp)
    by_cases e : x.node.toNat = i
    · have hs : x.node = self := by omega
      unfold nextM
      rw [if_pos hs]
    · simp [e]
theorem selfM_up (x m : M) : m.inc ≤ (selfM x m).inc ∧ (m.st = 1 → (selfM x m).st = 1) := by
  unfold selfM
  split
  · rename_i h
    constructor
    · simp only
      split <;> omega
    · intro _; rfl
  · exact ⟨Int.le_refl _, fun h => h⟩
theorem selfN_up : ∀ (l : List Nw) (m : M) (i : Nat), m.inc ≤ (selfN m l i).inc ∧ (m.st = 1 → (selfN m l i).st = 1)
  | [], m, i => ⟨Int.le_refl _, fun h => h⟩
  | x :: l, m, i => by
    unfold selfN
    obtain ⟨h1, h2⟩ := selfN_up l (if x.node.toNat = i ∧ val x.m = true then selfM x.m m else m) i
    obtain ⟨g1, g2⟩ := selfM_up x.m m
    split at h1
    · rename_i c
      rw [if_pos c] at h2 ⊢
      exact ⟨by omega, fun h => h2 (g2 h)⟩
    · rename_i c
      rw [if_neg c] at h2 ⊢
      exact ⟨h1, h2⟩
/- Nothing new to self. -/
def Quiet (x f : M) : Prop := x.inc < f.inc ∨ (x.inc = f.inc ∧ x.st = 1)
theorem quiet_same {x f : M} (h : Quiet x f) : selfM x f = f := by
  unfold selfM
  rw [if_neg]
  unfold Quiet at h
  omega
theorem quiet_now (x m : M) (hx : x.inc < 4294967295) : Quiet x (selfM x m) := by
  unfold selfM Quiet
  rw [if_pos hx]
  split
  · rename_i h
    simp only
    omega
  · rename_i h
    omega
theorem quiet_on {x m : M} (y : M) (hy : y.inc < 4294967295) (h : Quiet x m) : Quiet x (selfM y m) := by
  unfold selfM Quiet at *
  rw [if_pos hy]
  split
  · rename_i c
    simp only
    omega
  · exact h
theorem quiet_all : ∀ (l : List Nw) (m : M) (i : Nat), (∀ x ∈ l, x.m.inc < 4294967295) → (∀ x, Quiet x m → Quiet x (selfN m l i)) ∧ ∀ x ∈ l, x.node.toNat = i → val x.m = true → Quiet x.m (selfN m l i)
  | [], m, i, _ => ⟨fun x h => h, fun x hx => by cases hx⟩
  | x :: l, m, i, hl => by
    unfold selfN
    obtain ⟨h1, h2⟩ := quiet_all l (if x.node.toNat = i ∧ val x.m = true then selfM x.m m else m) i (fun y hy => hl y (List.mem_cons_of_mem _ hy))
    have hx := hl x (by simp)
    refine ⟨fun y hy => h1 y ?_, fun y hy e hv => ?_⟩
    · split
      · exact quiet_on x.m hx hy
      · exact hy
    · rcases List.mem_cons.1 hy with rfl | hy
      · refine h1 _ ?_
        rw [if_pos ⟨e, hv⟩]
        exact quiet_now _ _ hx
      · exact h2 y hy e hv
/- News that change nothing. -/
def Still (self : Int) (v : List M) (x : Nw) : Prop := ∀ was, v[x.node.toNat]? = some was → val x.m = true → nextM self x was = was
theorem still_step {v : List M} {x : Nw} (h : Still self v x) : stepV self v x = v ∧ stepC self v x = [] := by
  unfold stepV stepC
  cases hw : v[x.node.toNat]? with
  | none => exact ⟨rfl, rfl⟩
  | some was =>
    simp only
    cases hv : val x.m with
    | false => simp
    | true =>
      have e := h was hw hv
      have hl := (List.getElem?_eq_some_iff.1 hw)
      rw [e]
      constructor
      · rw [if_pos rfl]
        obtain ⟨h1, h2⟩ := hl
        rw [← h2]
        exact List.set_getElem_self h1
      · rw [(sameM_iff was was).2 rfl]
        simp
theorem still_all : ∀ (l : List Nw) (v : List M), (∀ x ∈ l, Still self v x) → hearV self v l = v ∧ hearC self v l = []
  | [], v, _ => ⟨rfl, rfl⟩
  | x :: l, v, h => by
    obtain ⟨h1, h2⟩ := still_step (h x (by simp))
    obtain ⟨g1, g2⟩ := still_all l v (fun y hy => h y (List.mem_cons_of_mem _ hy))
    unfold hearV hearC
    rw [h1, h2, g1, g2]
    exact ⟨rfl, rfl⟩
/- Hearing news again changes nothing. -/
theorem again_still {v : List M} {l : List Nw} (hn : ∀ x ∈ l, 0 ≤ x.node) (hi : ∀ x ∈ l, x.m.inc < 4294967295) : ∀ x ∈ l, Still self (hearV self v l) x := by
  intro x hx was hw hv
  have h0 := hn x hx
  have hlt : x.node.toNat < v.length := by
    have := (List.getElem?_eq_some_iff.1 hw).1
    rw [hearV_len] at this
    exact this
  obtain ⟨m, hm⟩ : ∃ m, v[x.node.toNat]? = some m := ⟨_, List.getElem?_eq_getElem hlt⟩
  unfold nextM
  by_cases e : x.node = self
  · rw [if_pos e]
    rw [hearV_self (i := x.node.toNat) (by omega) l v m hn hm] at hw
    injection hw with hw
    rw [← hw]
    exact quiet_same ((quiet_all l m _ hi).2 x hx rfl hv)
  · rw [if_neg e]
    rw [hearV_get (i := x.node.toNat) (by omega) l v m hn hm] at hw
    injection hw with hw
    have := (newest_is _ l m).2.2 x hx rfl hv
    rw [hw] at this
    rw [(nwr_false _ _).2 this]
    rfl
/- What has changed. -/
theorem changes_are : ∀ (l : List Nw) (v : List M), (∀ x ∈ l, 0 ≤ x.node) → ∀ c ∈ hearC self v l, 0 ≤ c.node ∧ ∃ m, v[c.node.toNat]? = some m ∧ (c.node = self ∨ Nr c.m m)
  | [], v, _, c, h => by cases h
  | x :: l, v, hn, c, h => by
    unfold hearC at h
    have h0 := hn x (by simp)
    rcases List.mem_append.1 h with h | h
    · unfold stepC at h
      cases hw : v[x.node.toNat]? with
      | none => rw [hw] at h; cases h
      | some was =>
        rw [hw] at h
        simp only at h
        split at h
        · rename_i hc
          simp at h
          subst h
          refine ⟨h0, was, hw, ?_⟩
          rw [Bool.and_eq_true] at hc
          have hne : nextM self x was ≠ was := by
            have := hc.2
            simp at this
            exact (sameM_false _ _).1 this
          by_cases e : x.node = self
          · exact .inl e
          · right
            unfold nextM at hne ⊢
            rw [if_neg e] at hne ⊢
            split at hne
            · rename_i g
              rw [if_pos g]
              exact (nwr_iff _ _).1 g
            · exact absurd rfl hne
        · cases h
    · obtain ⟨g0, m, hm, hc⟩ := changes_are l (stepV self v x) (fun y hy => hn y (List.mem_cons_of_mem _ hy)) c h
      have hlt : c.node.toNat < v.length := by
        have := (List.getElem?_eq_some_iff.1 hm).1
        rw [stepV_len] at this
        exact this
      refine ⟨g0, v[c.node.toNat], List.getElem?_eq_getElem hlt, ?_⟩
      rcases hc with hc | hc
      · exact .inl hc
      · by_cases e : c.node = self
        · exact .inl e
        · right
          have h1 := hearV_get (self := self) (i := c.node.toNat) (by omega) [x] v v[c.node.toNat] (fun y hy => by simp at hy; rw [hy]; exact h0) (List.getElem?_eq_getElem hlt)
          have h2 : (hearV self v [x])[c.node.toNat]? = some m := hm
          rw [h2] at h1
          injection h1 with h1
          rcases (newest_is c.node.toNat [x] v[c.node.toNat]).1 with g | g
          · rw [← h1] at g; rw [g] at hc; exact hc
          · rw [← h1] at g; exact nr_trans hc g
theorem stepV_ok {v : List M} {x : Nw} (hv : ∀ m ∈ v, okM m) (hx : okN x) : ∀ m ∈ stepV self v x, okM m := by
  unfold stepV
  split
  · exact hv
  · rename_i was hw
    split
    · intro m hm
      rcases List.mem_or_eq_of_mem_set hm with h | h
      · exact hv m h
      · rw [h]
        exact nextM_ok hx (hv was (List.mem_of_getElem? hw))
    · exact hv
theorem hearV_ok : ∀ (l : List Nw) (v : List M), (∀ m ∈ v, okM m) → (∀ x ∈ l, okN x) → ∀ m ∈ hearV self v l, okM m
  | [], v, hv, _ => hv
  | x :: l, v, hv, hl => hearV_ok l (stepV self v x) (stepV_ok hv (hl x (by simp))) (fun y hy => hl y (List.mem_cons_of_mem _ hy))
end
/- All of a view; who is up; a fresh one. -/
def allFrom : Nat → List M → List Nw
  | _, [] => []
  | k, m :: l => ⟨(k : Int), m⟩ :: allFrom (k + 1) l
def allN (v : List M) : List Nw := allFrom 0 v
theorem allFrom_snoc : ∀ (l : List M) (k : Nat) (m : M), allFrom k (l ++ [m]) = allFrom k l ++ [⟨((k + l.length : Nat) : Int), m⟩]
  | [], k, m => rfl
  | y :: l, k, m => by
    show ⟨(k : Int), y⟩ :: allFrom (k + 1) (l ++ [m]) = _
    rw [allFrom_snoc l (k + 1) m]
    show _ = ⟨(k : Int), y⟩ :: (allFrom (k + 1) l ++ _)
    rw [show k + 1 + l.length = k + (y :: l).length by simp; omega]
theorem allFrom_len : ∀ (l : List M) (k : Nat), (allFrom k l).length = l.length
  | [], k => rfl
  | y :: l, k => by unfold allFrom; simp [allFrom_len l (k + 1)]
theorem allN_len (v : List M) : (allN v).length = v.length := allFrom_len v 0
theorem allFrom_mem : ∀ (l : List M) (k : Nat) (x : Nw), x ∈ allFrom k l ↔ ∃ (i : Nat) (m : M), l[i]? = some m ∧ x = ⟨((k + i : Nat) : Int), m⟩
  | [], k, x => by simp [allFrom]
  | y :: l, k, x => by
    unfold allFrom
    rw [List.mem_cons, allFrom_mem l (k + 1) x]
    constructor
    · rintro (h | ⟨i, m, h1, h2⟩)
      · exact ⟨0, y, rfl, h⟩
      · exact ⟨i + 1, m, h1, by rw [h2]; congr 2; omega⟩
    · rintro ⟨i, m, h1, h2⟩
      cases i with
      | zero =>
        simp at h1
        subst h1
        exact .inl h2
      | succ i => exact .inr ⟨i, m, h1, by rw [h2]; congr 2; omega⟩
theorem allN_mem (v : List M) (x : Nw) : x ∈ allN v ↔ ∃ (i : Nat) (m : M), v[i]? = some m ∧ x = ⟨(i : Int), m⟩ := by
  unfold allN
  rw [allFrom_mem]
  constructor <;> rintro ⟨i, m, h1, h2⟩ <;> exact ⟨i, m, h1, by rw [h2]; congr 2; omega⟩
theorem allN_node {v : List M} : ∀ x ∈ allN v, 0 ≤ x.node := fun x hx => by
  obtain ⟨i, m, _, rfl⟩ := (allN_mem v x).1 hx
  show (0 : Int) ≤ (i : Int)
  omega
theorem allN_ok {v : List M} (hv : ∀ m ∈ v, okM m) (hl : v.length ≤ 256) : ∀ x ∈ allN v, okN x := fun x hx => by
  obtain ⟨i, m, h, rfl⟩ := (allN_mem v x).1 hx
  have := (List.getElem?_eq_some_iff.1 h).1
  exact ⟨⟨by show (0 : Int) ≤ (i : Int); omega, by show (i : Int) < 256; omega⟩, hv m (List.mem_of_getElem? h)⟩
def isUp (m : M) : Bool := decide (m.st = 1) || decide (m.st = 2)
def upFrom : Nat → List M → List Int
  | _, [] => []
  | k, m :: l => if isUp m then (k : Int) :: upFrom (k + 1) l else upFrom (k + 1) l
def upN (v : List M) : List Int := upFrom 0 v
theorem upFrom_snoc : ∀ (l : List M) (k : Nat) (m : M), upFrom k (l ++ [m]) = upFrom k l ++ (if isUp m then [((k + l.length : Nat) : Int)] else [])
  | [], k, m => by
    show (if isUp m then (k : Int) :: upFrom (k + 1) [] else upFrom (k + 1) []) = _
    cases isUp m <;> simp [upFrom]
  | y :: l, k, m => by
    show (if isUp y then (k : Int) :: upFrom (k + 1) (l ++ [m]) else upFrom (k + 1) (l ++ [m])) = _
    rw [upFrom_snoc l (k + 1) m, show k + 1 + l.length = k + (y :: l).length by simp; omega]
    show _ = (if isUp y then (k : Int) :: upFrom (k + 1) l else upFrom (k + 1) l) ++ _
    cases isUp y <;> simp
theorem upFrom_len : ∀ (l : List M) (k : Nat), (upFrom k l).length ≤ l.length
  | [], k => by simp [upFrom]
  | y :: l, k => by
    have := upFrom_len l (k + 1)
    unfold upFrom
    split <;> simp <;> omega
def fresh (n : Int) : List M := if 64 < n then [] else List.replicate n.toNat ⟨1, 0⟩
/- Told in full. -/
theorem full_not {self : Int} {v w : List M} {i : Nat} {m x : M} (hi : (i : Int) ≠ self) (hw : w[i]? = some m) (hv : val m = true) (hx : (hearV self v (allN w))[i]? = some x) : ¬ Nr m x := by
  have hlt : i < v.length := by
    have := (List.getElem?_eq_some_iff.1 hx).1
    rw [hearV_len] at this
    exact this
  rw [hearV_get hi (allN w) v v[i] allN_node (List.getElem?_eq_getElem hlt)] at hx
  injection hx with hx
  rw [← hx]
  exact (newest_is i (allN w) v[i]).2.2 ⟨(i : Int), m⟩ ((allN_mem w _).2 ⟨i, m, hw, rfl⟩) (by show (i : Int).toNat = i; omega) hv
/- Two who tell each other all. -/
theorem newest_two {i : Nat} {b : List M} {p q : M} (hb : b[i]? = some q) (hv : val q = true) : newest i p (allN b) = p ∨ newest i p (allN b) = q := by
  rcases (newest_is i (allN b) p).2.1 with h | ⟨x, hx, e, _, h⟩
  · exact .inl h
  · obtain ⟨j, m, hj, rfl⟩ := (allN_mem b x).1 hx
    have ej : j = i := by have : (j : Int).toNat = i := e; omega
    subst ej
    rw [hb] at hj
    injection hj with hj
    exact .inr (by rw [h, hj])
theorem meet_same {x y : Int} {a b : List M} {i : Nat} {p q : M} (hx : (i : Int) ≠ x) (hy : (i : Int) ≠ y) (ha : a[i]? = some p) (hb : b[i]? = some q) (hp : val p = true) (hq : val q = true) : (hearV x a (allN b))[i]? = (hearV y b (allN a))[i]? := by
  rw [hearV_get hx (allN b) a p allN_node ha, hearV_get hy (allN a) b q allN_node hb]
  congr 1
  have n1 := (newest_is i (allN b) p).2.2 ⟨(i : Int), q⟩ ((allN_mem b _).2 ⟨i, q, hb, rfl⟩) (by show (i : Int).toNat = i; omega) hq
  have n2 := (newest_is i (allN a) q).2.2 ⟨(i : Int), p⟩ ((allN_mem a _).2 ⟨i, p, ha, rfl⟩) (by show (i : Int).toNat = i; omega) hp
  have m1 := (newest_is i (allN b) p).1
  have m2 := (newest_is i (allN a) q).1
  rcases newest_two (p := p) hb hq with e1 | e1 <;> rcases newest_two (p := q) ha hp with e2 | e2
  · rw [e1] at n1 ⊢
    rw [e2] at n2 ⊢
    exact nr_total n2 n1
  · rw [e1, e2]
  · rw [e1, e2]
  · rw [e1] at m1 ⊢
    rw [e2] at m2 ⊢
    rcases m1 with m1 | m1
    · exact m1
    · rcases m2 with m2 | m2
      · exact m2.symm
      · exact absurd (nr_trans m1 m2) (nr_irrefl _)
end Go.Proofs.Ytdcokccfannfmaa
