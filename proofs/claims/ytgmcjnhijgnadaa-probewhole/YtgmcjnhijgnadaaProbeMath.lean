/- The plain mathematics of a probe: ticks, answers, who is pinged, who has failed. No condition but those that are stated. -/
import Derived.Test.YtgmcjnhijgnadaaMixMath
import Derived.Test.YtgmcjnhijgnadaaState
namespace Go.Proofs.Ytgmcjnhijgnadaa
set_option linter.unusedVariables false
set_option linter.unusedSimpArgs false

structure Wt where
  node : Int
  since : Nat
structure Pb where
  self : Int
  n : Nat
  row : List Int
  place : Nat
  waits : List Wt
  ticks : Nat
structure Ask where
  helper : Int
  target : Int
structure Rd where
  pings : List Int
  asks : List Ask
  failed : List Int
/- All but self, rising. -/
def others (self : Int) : Nat → List Int
  | 0 => []
  | n + 1 => others self n ++ (if (n : Int) = self then [] else [(n : Int)])
theorem others_next (self : Int) (n : Nat) : others self (n + 1) = others self n ++ (if (n : Int) = self then [] else [(n : Int)]) := rfl
theorem others_mem {self x : Int} : ∀ {n : Nat}, x ∈ others self n ↔ 0 ≤ x ∧ x < n ∧ x ≠ self
  | 0 => by simp [others]; omega
  | n + 1 => by
    rw [others_next, List.mem_append, others_mem]
    by_cases e : (n : Int) = self
    · rw [if_pos e]
      simp
      omega
    · rw [if_neg e]
      simp
      omega
theorem others_once (self : Int) : ∀ n, (others self n).Nodup
  | 0 => by simp [others]
  | n + 1 => by
    rw [others_next]
    by_cases e : (n : Int) = self
    · rw [if_pos e, List.append_nil]
      exact others_once self n
    · rw [if_neg e]
      refine List.nodup_append.2 ⟨others_once self n, by simp, fun a ha b hb => ?_⟩
      simp at hb
      subst hb
      have := others_mem.1 ha
      omega
theorem others_len (self : Int) : ∀ n, (others self n).length = n - (if 0 ≤ self ∧ self < n then 1 else 0)
  | 0 => by simp [others]
  | n + 1 => by
    rw [others_next, List.length_append, others_len self n]
    by_cases e : (n : Int) = self
    · rw [if_pos e, if_neg (by omega), if_pos (by omega)]
      simp
    · rw [if_neg e]
      by_cases h : 0 ≤ self ∧ self < n
      · rw [if_pos h, if_pos (by omega)]
        simp
        omega
      · rw [if_neg h, if_neg (by omega)]
        simp
theorem others_one {self : Int} {n : Nat} (h1 : 0 ≤ self) (h2 : self < n) : (others self n).length = n - 1 := by rw [others_len, if_pos ⟨h1, h2⟩]
/- Helpers. -/
def badH (self : Int) (n : Nat) (target : Int) (out : List Int) (h : Int) : Bool := decide (h = target) || decide (h = self) || decide ((n : Int) ≤ h) || decide (out.length = 2) || (decide (out.length = 1) && decide (out[0]? = some h))
def stepH (self : Int) (n : Nat) (target : Int) (out : List Int) (h : Int) : List Int := if badH self n target out h then out else out ++ [h]
def fromH (x : Int) (l : List Int) : Nat := (x % (l.length : Int)).toNat
def roundH (x : Int) (l : List Int) : List Int := l.drop (fromH x l) ++ l.take (fromH x l)
def twoH (self : Int) (n : Nat) (x : Int) (l : List Int) (target : Int) : List Int := if l.length = 0 then [] else (roundH x l).foldl (stepH self n target) []
theorem step_len {self : Int} {n : Nat} {target : Int} {out : List Int} (h : out.length ≤ 2) (x : Int) : (stepH self n target out x).length ≤ 2 := by
  unfold stepH
  by_cases hb : badH self n target out x
  · rw [if_pos hb]; exact h
  · rw [if_neg hb, List.length_append]
    have : out.length ≠ 2 := by
      intro e
      apply hb
      unfold badH
      simp [e]
    simp
    omega
theorem fold_len {self : Int} {n : Nat} {target : Int} : ∀ (l out : List Int), out.length ≤ 2 → (l.foldl (stepH self n target) out).length ≤ 2
  | [], out, h => h
  | x :: l, out, h => fold_len l _ (step_len h x)
theorem two_len (self : Int) (n : Nat) (x : Int) (l : List Int) (target : Int) : (twoH self n x l target).length ≤ 2 := by
  unfold twoH
  split
  · simp
  · exact fold_len _ _ (by simp)
theorem step_mem {self : Int} {n : Nat} {target : Int} {out : List Int} {x y : Int} (h : y ∈ stepH self n target out x) : y ∈ out ∨ y = x := by
  unfold stepH at h
  split at h
  · exact .inl h
  · simpa using h
theorem fold_mem {self : Int} {n : Nat} {target y : Int} : ∀ (l out : List Int), y ∈ l.foldl (stepH self n target) out → y ∈ out ∨ y ∈ l
  | [], out, h => .inl h
  | x :: l, out, h => by
    rcases fold_mem l _ h with h | h
    · rcases step_mem h with h | h
      · exact .inl h
      · exact .inr (by simp [h])
    · exact .inr (by simp [h])
theorem two_mem {self : Int} {n : Nat} {x : Int} {l : List Int} {target y : Int} (h : y ∈ twoH self n x l target) : y ∈ l := by
  unfold twoH at h
  split at h
  · simp at h
  · rcases fold_mem _ _ h with h | h
    · simp at h
    · unfold roundH at h
      rw [List.mem_append] at h
      rcases h with h | h
      · exact List.mem_of_mem_drop h
      · exact List.mem_of_mem_take h
/- A row shuffled. -/
def nthI (l : List Int) (i : Nat) : Int := match l[i]? with
  | none => 0
  | some x => x
theorem nthI_at {l : List Int} {i : Nat} {x : Int} (h : l[i]? = some x) : nthI l i = x := by unfold nthI; rw [h]
def swp (l : List Int) (i j : Nat) : List Int := (l.set i (nthI l j)).set j (nthI l i)
theorem swp_len (l : List Int) (i j : Nat) : (swp l i j).length = l.length := by unfold swp; simp
def jx (x : Int) (i : Nat) : Nat := (twoI x (i : Int) % ((i : Int) + 1)).toNat
def shuf (x : Int) : Nat → List Int → List Int
  | 0, r => r
  | i + 1, r => shuf x i (swp r (i + 1) (jx x (i + 1)))
theorem shuf_next (x : Int) (i : Nat) (r : List Int) : shuf x (i + 1) r = shuf x i (swp r (i + 1) (jx x (i + 1))) := rfl
theorem shuf_len (x : Int) : ∀ (i : Nat) (r : List Int), (shuf x i r).length = r.length
  | 0, r => rfl
  | i + 1, r => by rw [shuf_next, shuf_len x i, swp_len]
theorem jx_le (x : Int) (i : Nat) : jx x i ≤ i := by
  unfold jx
  have h1 := Int.emod_nonneg (twoI x (i : Int)) (show ((i : Int) + 1) ≠ 0 by omega)
  have h2 := Int.emod_lt_of_pos (twoI x (i : Int)) (show (0 : Int) < (i : Int) + 1 by omega)
  omega
/- Two that change places: the same ones stand there, as often. -/
theorem count_set {l : List Int} {i : Nat} {a : Int} (h : l[i]? = some a) (b x : Int) : (l.set i b).count x + (if a = x then 1 else 0) = l.count x + (if b = x then 1 else 0) := by
  induction l generalizing i with
  | nil => simp at h
  | cons y l ih =>
    cases i with
    | zero =>
      simp at h
      subst h
      simp only [List.set_cons_zero, List.count_cons, beq_iff_eq]
      omega
    | succ i =>
      simp at h
      have := ih h
      simp only [List.set_cons_succ, List.count_cons]
      omega
theorem swp_count {l : List Int} {i j : Nat} {a b : Int} (hi : l[i]? = some a) (hj : l[j]? = some b) (x : Int) : (swp l i j).count x = l.count x := by
  unfold swp
  rw [nthI_at hi, nthI_at hj]
  have h1 := count_set hi b x
  have hj2 : (l.set i b)[j]? = some b := by
    rw [List.getElem?_set]
    split
    · rw [if_pos (List.getElem?_eq_some_iff.1 hi).1]
    · exact hj
  have h2 := count_set hj2 a x
  omega
theorem swp_perm {l : List Int} {i j : Nat} (hi : i < l.length) (hj : j < l.length) : (swp l i j).Perm l := List.perm_iff_count.2 (fun x => swp_count (List.getElem?_eq_getElem hi) (List.getElem?_eq_getElem hj) x)
theorem shuf_perm (x : Int) : ∀ (i : Nat) (r : List Int), i < r.length ∨ i = 0 → (shuf x i r).Perm r
  | 0, r, _ => List.Perm.refl _
  | i + 1, r, h => by
    have hi : i + 1 < r.length := by omega
    have hj : jx x (i + 1) < r.length := by have := jx_le x (i + 1); omega
    exact (shuf_perm x i _ (by rw [swp_len]; omega)).trans (swp_perm hi hj)
/- A tick. -/
def late (t : Nat) (w : Wt) : Bool := decide (w.since + 2 ≤ t)
def leftW (t : Nat) (ws : List Wt) : List Wt := ws.filter (fun w => !late t w)
def failW (t : Nat) (ws : List Wt) : List Int := (ws.filter (late t)).map Wt.node
def asksOf (self : Int) (n : Nat) (x : Int) (hs : List Int) (w : Wt) : List Ask := (twoH self n x hs w.node).map (fun h => ⟨h, w.node⟩)
def asksW (self : Int) (n : Nat) (x : Int) (hs : List Int) (t : Nat) (ws : List Wt) : List Ask := (leftW t ws).flatMap (asksOf self n x hs)
def isW (ws : List Wt) (x : Int) : Bool := decide (x ∈ ws.map Wt.node)
def rowT (p : Pb) (x : Int) : List Int := if p.place = p.n - 1 then shuf x (p.n - 2) p.row else p.row
def placeT (p : Pb) : Nat := if p.place = p.n - 1 then 0 else p.place
def pingT (p : Pb) (x : Int) : Int := nthI (rowT p x) (placeT p)
def waitT (ws : List Wt) (x : Int) (t : Nat) : List Wt := if isW ws x then ws else ws ++ [⟨x, t⟩]
def tickR (p : Pb) (x : Int) (hs : List Int) : Rd := ⟨if p.n = 1 then [] else [pingT p x], asksW p.self p.n x hs (p.ticks + 1) p.waits, failW (p.ticks + 1) p.waits⟩
def tickP (p : Pb) (x : Int) : Pb := if p.n = 1 then { p with waits := leftW (p.ticks + 1) p.waits, ticks := p.ticks + 1 } else { p with row := rowT p x, place := placeT p + 1, waits := waitT (leftW (p.ticks + 1) p.waits) (pingT p x) (p.ticks + 1), ticks := p.ticks + 1 }
def ansP (p : Pb) (a : Int) : Pb := { p with waits := p.waits.filter (fun w => w.node != a) }
def nodW (p : Pb) : List Int := p.waits.map Wt.node
def newP (self : Int) (n : Nat) : Pb := ⟨self, n, others self n, 0, [], 0⟩
/- What is always so. -/
structure Gp (p : Pb) : Prop where
  n1 : 1 ≤ p.n
  n2 : p.n ≤ 64
  s1 : 0 ≤ p.self
  s2 : p.self < p.n
  row : p.row.Perm (others p.self p.n)
  pl : p.place ≤ p.n - 1
  once : (p.waits.map Wt.node).Nodup
  wait : ∀ w ∈ p.waits, (0 ≤ w.node ∧ w.node < 64) ∧ w.since ≤ p.ticks ∧ p.ticks ≤ w.since + 1
theorem gp_len {p : Pb} (h : Gp p) : p.row.length = p.n - 1 := by rw [h.row.length_eq, others_one h.s1 h.s2]
theorem gp_new {self : Int} {n : Nat} (h1 : 1 ≤ n) (h2 : n ≤ 64) (s1 : 0 ≤ self) (s2 : self < n) : Gp (newP self n) := ⟨h1, h2, s1, s2, List.Perm.refl _, Nat.zero_le _, by simp [newP], fun w hw => by simp [newP] at hw⟩
theorem rowT_perm {p : Pb} (h : Gp p) (x : Int) (hn : p.n ≠ 1) : (rowT p x).Perm (others p.self p.n) := by
  unfold rowT
  split
  · refine (shuf_perm x _ _ ?_).trans h.row
    rw [gp_len h]
    have := h.n1
    omega
  · exact h.row
theorem placeT_lt {p : Pb} (h : Gp p) (hn : p.n ≠ 1) : placeT p < p.n - 1 := by
  unfold placeT
  have := h.n1
  have := h.pl
  split
  · omega
  · omega
theorem pingT_at {p : Pb} (h : Gp p) (x : Int) (hn : p.n ≠ 1) : (rowT p x)[placeT p]? = some (pingT p x) := by
  have hl : placeT p < (rowT p x).length := by rw [(rowT_perm h x hn).length_eq, others_one h.s1 h.s2]; exact placeT_lt h hn
  have e := List.getElem?_eq_getElem hl
  unfold pingT
  rw [nthI_at e]
  exact e
theorem pingT_mem {p : Pb} (h : Gp p) (x : Int) (hn : p.n ≠ 1) : pingT p x ∈ others p.self p.n := (rowT_perm h x hn).mem_iff.1 (List.mem_of_getElem? (pingT_at h x hn))
theorem left_mem {t : Nat} {ws : List Wt} {w : Wt} : w ∈ leftW t ws ↔ w ∈ ws ∧ t < w.since + 2 := by
  unfold leftW late
  rw [List.mem_filter]
  simp
theorem gp_tick {p : Pb} (h : Gp p) (x : Int) : Gp (tickP p x) := by
  have hl : ((leftW (p.ticks + 1) p.waits).map Wt.node).Nodup := h.once.sublist (List.Sublist.map _ List.filter_sublist)
  unfold tickP
  by_cases hn : p.n = 1
  · rw [if_pos hn]
    exact ⟨h.n1, h.n2, h.s1, h.s2, h.row, h.pl, hl, fun w hw => by
      obtain ⟨h1, h2⟩ := left_mem.1 hw
      have := h.wait w h1
      exact ⟨this.1, by show w.since ≤ p.ticks + 1; omega, by show p.ticks + 1 ≤ w.since + 1; omega⟩⟩
  · rw [if_neg hn]
    have hp := others_mem.1 (pingT_mem h x hn)
    have hp64 : pingT p x < 64 := by have := h.n2; omega
    refine ⟨h.n1, h.n2, h.s1, h.s2, rowT_perm h x hn, by have := placeT_lt h hn; show placeT p + 1 ≤ p.n - 1; omega, ?_, fun w hw => ?_⟩
    · show ((waitT (leftW (p.ticks + 1) p.waits) (pingT p x) (p.ticks + 1)).map Wt.node).Nodup
      unfold waitT
      cases hi : isW (leftW (p.ticks + 1) p.waits) (pingT p x) with
      | true => exact hl
      | false =>
        rw [if_neg (by simp), List.map_append]
        refine List.nodup_append.2 ⟨hl, by simp, fun a ha b hb => ?_⟩
        simp at hb
        subst hb
        rintro rfl
        unfold isW at hi
        simp at hi
        simp at ha
        obtain ⟨w, hw, e⟩ := ha
        exact hi w hw e
    · have hw' : w ∈ waitT (leftW (p.ticks + 1) p.waits) (pingT p x) (p.ticks + 1) := hw
      unfold waitT at hw'
      have hin : w ∈ leftW (p.ticks + 1) p.waits ∨ w = ⟨pingT p x, p.ticks + 1⟩ := by
        cases hi : isW (leftW (p.ticks + 1) p.waits) (pingT p x) with
        | true => rw [hi] at hw'; exact .inl hw'
        | false => rw [hi] at hw'; simpa using hw'
      rcases hin with hw1 | rfl
      · obtain ⟨h1, h2⟩ := left_mem.1 hw1
        have := h.wait w h1
        exact ⟨this.1, by show w.since ≤ p.ticks + 1; omega, by show p.ticks + 1 ≤ w.since + 1; omega⟩
      · exact ⟨⟨hp.1, hp64⟩, Nat.le_refl _, by show p.ticks + 1 ≤ p.ticks + 1 + 1; omega⟩
theorem gp_ans {p : Pb} (h : Gp p) (a : Int) : Gp (ansP p a) := ⟨h.n1, h.n2, h.s1, h.s2, h.row, h.pl, h.once.sublist (List.Sublist.map _ List.filter_sublist), fun w hw => h.wait w (List.mem_filter.1 hw).1⟩
end Go.Proofs.Ytgmcjnhijgnadaa
