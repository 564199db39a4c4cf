/- Where items lie: a map of ids and places beside the buckets, while one place is to be filled (Sync) and when all are (Full); rows by times. Plain. No condition. -/
import Derived.Test.YtdmgdmhggmehgaaWheelMath
namespace Go.Proofs.Ytdmgdmhggmehgaa
set_option linter.unusedVariables false
set_option linter.unusedSimpArgs false

def updM (g : Int → Option (Nat × Nat)) (k : Int) (v : Nat × Nat) : Int → Option (Nat × Nat) := fun q => if q = k then some v else g q
def delM (g : Int → Option (Nat × Nat)) (k : Int) : Int → Option (Nat × Nat) := fun q => if q = k then none else g q
theorem updM_at (g : Int → Option (Nat × Nat)) (k : Int) (v : Nat × Nat) : updM g k v k = some v := by simp [updM]
theorem updM_ne (g : Int → Option (Nat × Nat)) {k q : Int} (v : Nat × Nat) (h : q ≠ k) : updM g k v q = g q := by simp [updM, h]
theorem delM_ne (g : Int → Option (Nat × Nat)) {k q : Int} (h : q ≠ k) : delM g k q = g q := by simp [delM, h]
structure Sync (L : Nat → List It) (g : Int → Option (Nat × Nat)) (x : It) (b i : Nat) : Prop where
  lt : b < 64
  here : (L b)[i]? = some x
  to : ∀ c j (y : It), c < 64 → (L c)[j]? = some y → ¬ (c = b ∧ j = i) → g y.2 = some (c, j) ∧ y.2 ≠ x.2
  back : ∀ k c j, k ≠ x.2 → g k = some (c, j) → c < 64 ∧ ∃ y : It, (L c)[j]? = some y ∧ y.2 = k
structure Full (L : Nat → List It) (g : Int → Option (Nat × Nat)) : Prop where
  to : ∀ c j (y : It), c < 64 → (L c)[j]? = some y → g y.2 = some (c, j)
  back : ∀ k c j, g k = some (c, j) → c < 64 ∧ ∃ y : It, (L c)[j]? = some y ∧ y.2 = k
section
variable {L : Nat → List It} {g : Int → Option (Nat × Nat)} {x y : It} {b i p : Nat}
theorem sync_swap (h : Sync L g x b i) (hn : i ≠ p) (ey : (L b)[p]? = some y) : Sync (upd L b (sw (L b) i p y x)) (updM g y.2 (b, i)) x b p := by
  have hi := lt_of_some h.here
  have hp := lt_of_some ey
  obtain ⟨gy, hyx⟩ := h.to b p y h.lt ey (by omega)
  refine ⟨h.lt, ?_, ?_, ?_⟩
  · rw [upd_at, sw_get hi hp, if_pos rfl]
  · intro c j z hc hz hne
    by_cases e : c = b
    · subst e
      rw [upd_at, sw_get hi hp] at hz
      have jp : ¬ p = j := by omega
      rw [if_neg jp] at hz
      by_cases ij : i = j
      · rw [if_pos ij] at hz
        injection hz with hz
        subst hz ij
        exact ⟨updM_at _ _ _, hyx⟩
      · rw [if_neg ij] at hz
        obtain ⟨g1, g2⟩ := h.to c j z hc hz (by omega)
        refine ⟨?_, g2⟩
        rw [updM_ne]
        · exact g1
        · intro e
          rw [e, gy] at g1
          injection g1 with g1
          injection g1 with _ g1
          exact jp g1
    · rw [upd_ne _ _ e] at hz
      obtain ⟨g1, g2⟩ := h.to c j z hc hz (by omega)
      refine ⟨?_, g2⟩
      rw [updM_ne]
      · exact g1
      · intro e'
        rw [e', gy] at g1
        injection g1 with g1
        injection g1 with g1 _
        exact e g1.symm
  · intro k c j hk hg
    by_cases ky : k = y.2
    · subst ky
      rw [updM_at] at hg
      injection hg with hg
      injection hg with h1 h2
      subst h1 h2
      refine ⟨h.lt, y, ?_, rfl⟩
      rw [upd_at, sw_get hi hp, if_neg (Ne.symm hn), if_pos rfl]
    · rw [updM_ne _ _ ky] at hg
      obtain ⟨hc, z, hz, hzk⟩ := h.back k c j hk hg
      refine ⟨hc, z, ?_, hzk⟩
      by_cases e : c = b
      · subst e
        have j1 : ¬ p = j := by rintro rfl; rw [ey] at hz; injection hz with hz; subst hz; exact ky hzk.symm
        have j2 : ¬ i = j := by rintro rfl; rw [h.here] at hz; injection hz with hz; subst hz; exact hk hzk.symm
        rw [upd_at, sw_get hi hp, if_neg j1, if_neg j2]
        exact hz
      · rw [upd_ne _ _ e]; exact hz
theorem sync_fill (h : Sync L g x b i) : Full L (updM g x.2 (b, i)) := by
  constructor
  · intro c j y hc hy
    by_cases e : c = b ∧ j = i
    · obtain ⟨rfl, rfl⟩ := e
      rw [h.here] at hy
      injection hy with hy
      subst hy
      exact updM_at _ _ _
    · obtain ⟨g1, g2⟩ := h.to c j y hc hy e
      rw [updM_ne _ _ g2]; exact g1
  · intro k c j hg
    by_cases e : k = x.2
    · subst e
      rw [updM_at] at hg
      injection hg with hg
      injection hg with h1 h2
      subst h1 h2
      exact ⟨h.lt, x, h.here, rfl⟩
    · rw [updM_ne _ _ e] at hg
      exact h.back k c j e hg
/- A new one, behind all others of its bucket. -/
theorem sync_new (h : Full L g) (hb : b < 64) (hx : g x.2 = none) : Sync (upd L b (L b ++ [x])) g x b (L b).length := by
  refine ⟨hb, by rw [upd_at]; simp, ?_, ?_⟩
  · intro c j y hc hy hne
    have hy2 : (L c)[j]? = some y := by
      by_cases e : c = b
      · subst e
        rw [upd_at] at hy
        have hj := lt_of_some hy
        simp at hj
        rw [List.getElem?_append_left (by omega)] at hy
        exact hy
      · rw [upd_ne _ _ e] at hy; exact hy
    have g1 := h.to c j y hc hy2
    exact ⟨g1, fun e => by rw [e, hx] at g1; cases g1⟩
  · intro k c j hk hg
    obtain ⟨hc, y, hy, e⟩ := h.back k c j hg
    refine ⟨hc, y, ?_, e⟩
    by_cases e : c = b
    · subst e
      rw [upd_at, List.getElem?_append_left (lt_of_some hy)]; exact hy
    · rw [upd_ne _ _ e]; exact hy
/- One gives its place to the last one. -/
theorem sync_out {e a : Nat} (h : Full L g) (hb : b < 64) (ha : a < e) (he : e + 1 = (L b).length) (ey : (L b)[a]? = some y) (ex : (L b)[e]? = some x) : Sync (upd L b (((L b).take e).set a x)) (delM g y.2) x b a := by
  have gy := h.to b a y hb ey
  have gx := h.to b e x hb ex
  have hal : a < ((L b).take e).length := by simp; omega
  refine ⟨hb, by rw [upd_at, List.getElem?_set, if_pos rfl, if_pos hal], ?_, ?_⟩
  · intro c j z hc hz hne
    by_cases ec : c = b
    · subst ec
      rw [upd_at, List.getElem?_set, if_neg (by omega), List.getElem?_take] at hz
      split at hz
      · rename_i hj
        have g1 := h.to c j z hc hz
        refine ⟨?_, fun e' => ?_⟩
        · rw [delM_ne]
          · exact g1
          · intro e'
            rw [e', gy] at g1
            injection g1 with g1
            injection g1 with _ g1
            omega
        · rw [e', gx] at g1
          injection g1 with g1
          injection g1 with _ g1
          omega
      · cases hz
    · rw [upd_ne _ _ ec] at hz
      have g1 := h.to c j z hc hz
      refine ⟨?_, fun e' => ?_⟩
      · rw [delM_ne]
        · exact g1
        · intro e'
          rw [e', gy] at g1
          injection g1 with g1
          injection g1 with g1 _
          omega
      · rw [e', gx] at g1
        injection g1 with g1
        injection g1 with g1 _
        omega
  · intro k c j hk hg
    by_cases ky : k = y.2
    · subst ky; simp [delM] at hg
    · rw [delM_ne _ ky] at hg
      obtain ⟨hc, z, hz, hzk⟩ := h.back k c j hg
      refine ⟨hc, z, ?_, hzk⟩
      by_cases ec : c = b
      · subst ec
        have j1 : j ≠ e := by rintro rfl; rw [ex] at hz; injection hz with hz; subst hz; exact hk hzk.symm
        have j2 : j ≠ a := by rintro rfl; rw [ey] at hz; injection hz with hz; subst hz; exact ky hzk.symm
        have := lt_of_some hz
        rw [upd_at, List.getElem?_set, if_neg (Ne.symm j2), List.getElem?_take, if_pos (by omega)]
        exact hz
      · rw [upd_ne _ _ ec]; exact hz
theorem full_out {e : Nat} (h : Full L g) (hb : b < 64) (he : e + 1 = (L b).length) (ex : (L b)[e]? = some x) : Full (upd L b ((L b).take e)) (delM g x.2) := by
  have gx := h.to b e x hb ex
  constructor
  · intro c j z hc hz
    by_cases ec : c = b
    · subst ec
      rw [upd_at, List.getElem?_take] at hz
      split at hz
      · have g1 := h.to c j z hc hz
        rw [delM_ne]
        · exact g1
        · intro e'
          rw [e', gx] at g1
          injection g1 with g1
          injection g1 with _ g1
          omega
      · cases hz
    · rw [upd_ne _ _ ec] at hz
      have g1 := h.to c j z hc hz
      rw [delM_ne]
      · exact g1
      · intro e'
        rw [e', gx] at g1
        injection g1 with g1
        injection g1 with g1 _
        omega
  · intro k c j hg
    by_cases ky : k = x.2
    · subst ky; simp [delM] at hg
    · rw [delM_ne _ ky] at hg
      obtain ⟨hc, z, hz, hzk⟩ := h.back k c j hg
      refine ⟨hc, z, ?_, hzk⟩
      by_cases ec : c = b
      · subst ec
        have j1 : j ≠ e := by rintro rfl; rw [ex] at hz; injection hz with hz; subst hz; exact ky hzk.symm
        have := lt_of_some hz
        rw [upd_at, List.getElem?_take, if_pos (by omega)]
        exact hz
      · rw [upd_ne _ _ ec]; exact hz
/- Whose id is there once. -/
theorem full_none (h : Full L g) {k : Int} : g k = none ↔ ∀ z ∈ flat L, z.2 ≠ k := by
  constructor
  · intro hk z hz e
    obtain ⟨c, hc, hm⟩ := flat_mem.1 hz
    obtain ⟨j, hj⟩ := List.getElem?_of_mem hm
    have := h.to c j z hc hj
    rw [e, hk] at this
    cases this
  · intro hk
    cases hg : g k with
    | none => rfl
    | some v =>
      obtain ⟨c, j⟩ := v
      obtain ⟨hc, z, hz, e⟩ := h.back k c j hg
      exact absurd e (hk z (flat_mem.2 ⟨c, hc, List.mem_of_getElem? hz⟩))
end
/- Rows by times, of one time by ids; no id twice. -/
abbrev Lt (a b : It) : Prop := a.1 < b.1 ∨ (a.1 = b.1 ∧ a.2 < b.2)
structure Srt (M : List It) : Prop where
  srt : M.Pairwise Lt
  uni : M.Pairwise (fun a b => a.2 ≠ b.2)
def wo (M : List It) (k : Int) : List It := M.filter (fun x => x.2 != k)
def ins (x : It) : List It → List It
  | [] => [x]
  | y :: t => if Lt x y then x :: y :: t else y :: ins x t
theorem lt_trans {a b c : It} (h : Lt a b) (g : Lt b c) : Lt a c := by unfold Lt at *; omega
theorem lt_tot {a b : It} (h : ¬ Lt a b) (hn : a.2 ≠ b.2) : Lt b a := by unfold Lt at *; omega
theorem ins_perm (x : It) : ∀ M, (ins x M).Perm (x :: M)
  | [] => List.Perm.refl _
  | y :: t => by
    unfold ins
    split
    · exact List.Perm.refl _
    · exact ((ins_perm x t).cons y).trans (List.Perm.swap _ _ _)
theorem srt_nil : Srt [] := ⟨List.Pairwise.nil, List.Pairwise.nil⟩
theorem srt_sub {M M' : List It} (h : Srt M) (s : M'.Sublist M) : Srt M' := ⟨h.srt.sublist s, h.uni.sublist s⟩
theorem srt_wo {M : List It} (h : Srt M) (k : Int) : Srt (wo M k) := srt_sub h List.filter_sublist
theorem srt_ins {x : It} : ∀ {M : List It}, Srt M → (∀ y ∈ M, y.2 ≠ x.2) → Srt (ins x M)
  | [], _, _ => ⟨List.pairwise_singleton _ _, List.pairwise_singleton _ _⟩
  | y :: t, h, hx => by
    have h1 := List.pairwise_cons.1 h.srt
    have h2 := List.pairwise_cons.1 h.uni
    unfold ins
    split
    · rename_i hl
      refine ⟨List.pairwise_cons.2 ⟨?_, h.srt⟩, List.pairwise_cons.2 ⟨fun z hz => Ne.symm (hx z hz), h.uni⟩⟩
      intro z hz
      rcases List.mem_cons.1 hz with rfl | hz
      · exact hl
      · exact lt_trans hl (h1.1 z hz)
    · rename_i hl
      have ih := srt_ins (x := x) (M := t) ⟨h1.2, h2.2⟩ (fun z hz => hx z (List.mem_cons.2 (.inr hz)))
      have hyx := hx y (List.mem_cons.2 (.inl rfl))
      refine ⟨List.pairwise_cons.2 ⟨?_, ih.srt⟩, List.pairwise_cons.2 ⟨?_, ih.uni⟩⟩
      · intro z hz
        rcases List.mem_cons.1 ((ins_perm x t).mem_iff.1 hz) with rfl | hz
        · exact lt_tot hl (Ne.symm hyx)
        · exact h1.1 z hz
      · intro z hz
        rcases List.mem_cons.1 ((ins_perm x t).mem_iff.1 hz) with rfl | hz
        · exact hyx
        · exact h2.1 z hz
theorem wo_perm {M : List It} {x : It} {l : List It} (h : M.Perm (x :: l)) (hl : ∀ z ∈ l, z.2 ≠ x.2) : (wo M x.2).Perm l := by
  have h1 : (wo M x.2).Perm (wo (x :: l) x.2) := h.filter _
  have h2 : wo (x :: l) x.2 = l := by
    unfold wo
    rw [List.filter_cons_of_neg (by simp)]
    exact List.filter_eq_self.2 (fun z hz => by simpa using hl z hz)
  rw [h2] at h1
  exact h1
theorem wo_not {M : List It} {k : Int} (h : ∀ z ∈ M, z.2 ≠ k) : wo M k = M := List.filter_eq_self.2 (fun z hz => by simpa using h z hz)
theorem wo_mem {M : List It} {k : Int} : ∀ z ∈ wo M k, z.2 ≠ k := fun z hz => by simpa [wo] using (List.mem_filter.1 hz).2
/- What is due at a time, and the rest. -/
def due (M : List It) (t : Int) : List It := M.filter (fun x => decide (x.1 ≤ t))
def aft (M : List It) (t : Int) : List It := M.filter (fun x => !decide (x.1 ≤ t))
theorem due_unique {M T R : List It} {t : Int} (h : Srt M) (hp : M.Perm (T ++ R)) (hT : ∀ x ∈ T, x.1 ≤ t) (hR : ∀ x ∈ R, t < x.1) : T.Perm (due M t) ∧ R.Perm (aft M t) := by
  have h1 : (due M t).Perm (due (T ++ R) t) := hp.filter _
  have h2 : (aft M t).Perm (aft (T ++ R) t) := hp.filter _
  have e1 : due (T ++ R) t = T := by
    unfold due
    rw [List.filter_append, List.filter_eq_self.2 (fun x hx => by simpa using hT x hx), List.filter_eq_nil_iff.2 (fun x hx => by have := hR x hx; simp; omega), List.append_nil]
  have e2 : aft (T ++ R) t = R := by
    unfold aft
    rw [List.filter_append, List.filter_eq_nil_iff.2 (fun x hx => by simpa using hT x hx), List.filter_eq_self.2 (fun x hx => by have := hR x hx; simp; omega), List.nil_append]
  rw [e1] at h1
  rw [e2] at h2
  exact ⟨h1.symm, h2.symm⟩
theorem sort_unique {T S : List It} (h : T.Perm S) (hT : T.Pairwise (fun a b => Lt a b ∨ a = b)) (hS : Srt S) : T = S := by
  refine List.Perm.eq_of_pairwise (le := fun a b => Lt a b ∨ a = b) ?_ hT (hS.srt.imp (fun h => .inl h)) h
  intro a b _ _ h1 h2
  rcases h1 with h1 | h1
  · rcases h2 with h2 | h2
    · unfold Lt at *; omega
    · exact h2.symm
  · exact h1
end Go.Proofs.Ytdmgdmhggmehgaa
