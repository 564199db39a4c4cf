/- Who is waited for, as a map of nodes to ticks: the plain mathematics of ProbeFails. -/
import Derived.Test.YtgmcjnhijgnadaaProbeMath
import Derived.Test.YtgmcjnhijgnadaaGDom
namespace Go.Proofs.Ytgmcjnhijgnadaa
set_option linter.unusedVariables false
set_option linter.unusedSimpArgs false

def wl : List Wt → Int → Option Int
  | [], _ => none
  | w :: ws, x => if x = w.node then some (w.since : Int) else wl ws x
theorem wl_cons (w : Wt) (ws : List Wt) (x : Int) : wl (w :: ws) x = if x = w.node then some (w.since : Int) else wl ws x := rfl
theorem wl_in {ws : List Wt} {x s : Int} (h : wl ws x = some s) : ∃ w ∈ ws, w.node = x ∧ (w.since : Int) = s := by
  induction ws with
  | nil => cases h
  | cons w ws ih =>
    unfold wl at h
    by_cases e : x = w.node
    · rw [if_pos e] at h
      injection h with h
      exact ⟨w, by simp, e.symm, h⟩
    · rw [if_neg e] at h
      obtain ⟨v, h1, h2⟩ := ih h
      exact ⟨v, List.mem_cons_of_mem _ h1, h2⟩
theorem wl_none {ws : List Wt} {x : Int} : wl ws x = none ↔ x ∉ ws.map Wt.node := by
  induction ws with
  | nil => simp [wl]
  | cons w ws ih =>
    unfold wl
    by_cases e : x = w.node
    · rw [if_pos e]
      simp [e]
    · rw [if_neg e, ih]
      simp [e]
theorem wl_some (ws : List Wt) (x : Int) : (wl ws x).isSome = isW ws x := by
  unfold isW
  cases e : wl ws x with
  | none => have := wl_none.1 e; simp only [Option.isSome_none]; rw [eq_comm, decide_eq_false_iff_not]; exact this
  | some s =>
    simp only [Option.isSome_some]
    rw [eq_comm, decide_eq_true_eq]
    obtain ⟨w, h1, h2, _⟩ := wl_in e
    exact List.mem_map.2 ⟨w, h1, h2⟩
theorem wl_at {ws : List Wt} (hd : (ws.map Wt.node).Nodup) {w : Wt} (h : w ∈ ws) : wl ws w.node = some (w.since : Int) := by
  induction ws with
  | nil => simp at h
  | cons v ws ih =>
    rw [List.map_cons, List.nodup_cons] at hd
    unfold wl
    rw [List.mem_cons] at h
    rcases h with rfl | h
    · rw [if_pos rfl]
    · rw [if_neg, ih hd.2 h]
      intro e
      apply hd.1
      rw [← e]
      exact List.mem_map.2 ⟨w, h, rfl⟩
theorem wl_less (ws : List Wt) (a : Int) : wl (ws.filter (fun w => w.node != a)) = del (wl ws) a := by
  funext x
  unfold del
  induction ws with
  | nil => simp [wl]
  | cons w ws ih =>
    rw [List.filter_cons]
    by_cases e : w.node = a
    · rw [if_neg (by simp [e]), ih]
      by_cases hx : x = a
      · simp [hx]
      · rw [if_neg hx, if_neg hx]
        rw [wl_cons, if_neg (by rw [e]; exact hx)]
    · rw [if_pos (by simpa using e)]
      unfold wl
      by_cases hx : x = w.node
      · rw [if_pos hx, if_neg (by rw [hx]; exact e), if_pos hx]
      · rw [if_neg hx, ih, if_neg hx]
def delI (g : Int → Option Int) (xs : List Int) (q : Int) : Option Int := if q ∈ xs then none else g q
theorem delI_nil (g : Int → Option Int) : delI g [] = g := by funext q; simp [delI]
theorem delI_more (g : Int → Option Int) (xs : List Int) (x : Int) : delI g (xs ++ [x]) = del (delI g xs) x := by
  funext q
  unfold delI del
  by_cases e : q = x
  · simp [e]
  · simp [e]
theorem fail_mem {t : Nat} {ws : List Wt} {x : Int} : x ∈ failW t ws ↔ ∃ w ∈ ws, w.node = x ∧ w.since + 2 ≤ t := by
  unfold failW
  rw [List.mem_map]
  constructor
  · rintro ⟨w, hw, rfl⟩
    obtain ⟨h1, h2⟩ := List.mem_filter.1 hw
    exact ⟨w, h1, rfl, by simpa [late] using h2⟩
  · rintro ⟨w, h1, rfl, h2⟩
    exact ⟨w, List.mem_filter.2 ⟨h1, by simpa [late] using h2⟩, rfl⟩
theorem same_wait {ws : List Wt} (hd : (ws.map Wt.node).Nodup) {v w : Wt} (hv : v ∈ ws) (hw : w ∈ ws) (e : v.node = w.node) : v.since = w.since := by
  have h1 := wl_at hd hv
  have h2 := wl_at hd hw
  rw [e, h2] at h1
  injection h1 with h1
  omega
theorem wl_left {t : Nat} {ws : List Wt} (hd : (ws.map Wt.node).Nodup) : delI (wl ws) (failW t ws) = wl (leftW t ws) := by
  have hl : ((leftW t ws).map Wt.node).Nodup := hd.sublist (List.Sublist.map _ List.filter_sublist)
  funext x
  unfold delI
  by_cases hf : x ∈ failW t ws
  · rw [if_pos hf, eq_comm, wl_none]
    intro hm
    obtain ⟨v, hv, e⟩ := List.mem_map.1 hm
    obtain ⟨w, hw, ew, hs⟩ := fail_mem.1 hf
    obtain ⟨h1, h2⟩ := left_mem.1 hv
    have := same_wait hd h1 hw (by rw [e, ew])
    omega
  · rw [if_neg hf]
    cases e : wl ws x with
    | none =>
      rw [eq_comm, wl_none]
      intro hm
      obtain ⟨v, hv, rfl⟩ := List.mem_map.1 hm
      exact wl_none.1 e (List.mem_map.2 ⟨v, (left_mem.1 hv).1, rfl⟩)
    | some s =>
      obtain ⟨w, h1, h2, h3⟩ := wl_in e
      have hw : w ∈ leftW t ws := left_mem.2 ⟨h1, by
        rcases Nat.lt_or_ge t (w.since + 2) with h | h
        · exact h
        · exact absurd (fail_mem.2 ⟨w, h1, h2, h⟩) hf⟩
      have := wl_at hl hw
      rw [h2, h3] at this
      exact this.symm
theorem wl_wait (ws : List Wt) (x : Int) (t : Nat) : wl (waitT ws x t) = if isW ws x then wl ws else upd (wl ws) x (t : Int) := by
  unfold waitT
  cases hi : isW ws x with
  | true => rfl
  | false =>
    rw [if_neg (by simp), if_neg (by simp)]
    have hn : wl ws x = none := by
      have := wl_some ws x
      rw [hi] at this
      simpa using this
    clear hi
    funext z
    unfold upd
    induction ws with
    | nil =>
      unfold wl
      by_cases e : z = x
      · simp [e]
      · simp [e, wl]
    | cons w ws ih =>
      unfold wl at hn
      by_cases e : x = w.node
      · rw [if_pos e] at hn; cases hn
      · rw [if_neg e] at hn
        rw [List.cons_append]
        unfold wl
        by_cases hz : z = w.node
        · rw [if_pos hz, if_pos hz, if_neg (by rw [hz]; exact fun h => e h.symm)]
        · rw [if_neg hz, if_neg hz]
          exact ih hn
theorem wl_dom : ∀ {ws : List Wt}, (ws.map Wt.node).Nodup → (∀ w ∈ ws, okU w.node) → dom (wl ws) = ws.length
  | [], _, _ => by
    have : wl [] = fun _ => none := by funext x; rfl
    rw [this]
    exact dom_none
  | w :: ws, hd, hk => by
    rw [List.map_cons, List.nodup_cons] at hd
    have ih := wl_dom hd.2 (fun v hv => hk v (List.mem_cons_of_mem _ hv))
    have e : wl (w :: ws) = upd (wl ws) w.node (w.since : Int) := by
      funext x
      rfl
    rw [e, dom_upd _ (hk w (by simp)), ih, wl_none.2 hd.1]
    simp
theorem wl_nil : wl [] = fun _ => none := by funext x; rfl
theorem gp_ok {p : Pb} (h : Gp p) : ∀ w ∈ p.waits, okU w.node := fun w hw => by have := (h.wait w hw).1; exact ⟨this.1, by omega⟩
theorem gp_dom {p : Pb} (h : Gp p) : dom (wl p.waits) = (nodW p).length := by rw [wl_dom h.once (gp_ok h)]; unfold nodW; simp
/- What a tick's round tells. -/
theorem fail_once {p : Pb} (h : Gp p) (t : Nat) : (failW t p.waits).Nodup := h.once.sublist (List.Sublist.map _ List.filter_sublist)
theorem fail_two {p : Pb} (h : Gp p) {x : Int} (hx : x ∈ failW (p.ticks + 1) p.waits) : ∃ s : Nat, wl p.waits x = some (s : Int) ∧ s + 2 = p.ticks + 1 ∧ okU x := by
  obtain ⟨w, h1, rfl, h2⟩ := fail_mem.1 hx
  have := h.wait w h1
  exact ⟨w.since, wl_at h.once h1, by omega, gp_ok h w h1⟩
theorem left_two {t : Nat} {ws : List Wt} {x s : Int} (h : wl (leftW t ws) x = some s) : (t : Int) < s + 2 ∧ 0 ≤ s := by
  obtain ⟨w, h1, _, h3⟩ := wl_in h
  have := (left_mem.1 h1).2
  omega
theorem left_three {p : Pb} (h : Gp p) {x s : Int} (hx : wl (leftW (p.ticks + 1) p.waits) x = some s) : ((p.ticks + 1 : Nat) : Int) < s + 2 ∧ 0 ≤ s ∧ s ≤ ((p.ticks + 1 : Nat) : Int) := by
  obtain ⟨w, h1, _, h3⟩ := wl_in hx
  have h2 := left_mem.1 h1
  have h4 := (h.wait w h2.1).2.1
  omega
theorem once_at {xs : List Int} (h : xs.Nodup) {j : Nat} {x : Int} (hx : xs[j]? = some x) : x ∉ xs.take j := by
  have hj := (List.getElem?_eq_some_iff.1 hx).1
  intro hm
  obtain ⟨i, hi⟩ := List.mem_iff_getElem?.1 hm
  have hij : i < j := by
    have := (List.getElem?_eq_some_iff.1 hi).1
    rw [List.length_take] at this
    omega
  rw [List.getElem?_take, if_pos hij] at hi
  have := (List.getElem?_inj (by omega) h).1 (hi.trans hx.symm)
  omega
end Go.Proofs.Ytgmcjnhijgnadaa
