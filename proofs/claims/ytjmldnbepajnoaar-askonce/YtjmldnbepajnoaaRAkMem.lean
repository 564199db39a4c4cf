/- The plain mathematics of a request's members in their order: who has something, the best of it, who has less. No condition but those that are stated. -/
import Derived.Test.YtjmldnbepajnoaaRAkCode2
namespace Go.Proofs.YtjmldnbepajnoaaR
set_option linter.unusedVariables false
set_option linter.unusedSimpArgs false

theorem map_filter {α β : Type} (f : α → β) (p : β → Bool) (l : List α) : (l.map f).filter p = (l.filter (fun x => p (f x))).map f := by
  induction l with
  | nil => rfl
  | cons x l ih =>
    rw [List.map_cons, List.filter_cons, List.filter_cons, ih]
    cases p (f x) <;> rfl
def hasM (M : List Ad) : List Ad := M.filter (fun q => q.x.has)
theorem hasM_is (a : Aq) : (hasM (memL a)).map (fun q => q.x) = hasL a := by
  unfold hasM memL hasL
  rw [map_filter, List.map_map]
  have e : a.l.filter (fun n => (memQ a n).x.has) = a.l.filter (saysB a) := List.filter_congr (fun n _ => mem_has a n)
  rw [e]
  refine List.map_congr_left (fun n hn => ?_)
  exact mem_yes (List.mem_filter.1 hn).2
def cntM (M : List Ad) : Nat := (hasM M).length
theorem cntM_is (a : Aq) : cntM (memL a) = (hasL a).length := by rw [← hasM_is, List.length_map]; rfl
theorem cntM_le (M : List Ad) : cntM M ≤ M.length := List.length_filter_le _ _
theorem cntM_next {M : List Ad} {k : Nat} {y : Ad} (h : M[k]? = some y) : cntM (M.take (k + 1)) = cntM (M.take k) + (if y.x.has then 1 else 0) := by
  unfold cntM hasM
  rw [take_next h, List.filter_append, List.length_append]
  congr 1
  cases e : y.x.has <;> simp [e]
/- The best, member by member. -/
def stepB (s : R × Bool) (q : Ad) : R × Bool := if q.x.has && (!s.2 || decide (cmpR s.1 q.x.r < 0)) then (q.x.r, true) else s
def foldB (M : List Ad) : R × Bool := M.foldl stepB (zeroR, false)
theorem foldB_next {M : List Ad} {k : Nat} {y : Ad} (h : M[k]? = some y) : foldB (M.take (k + 1)) = stepB (foldB (M.take k)) y := by
  unfold foldB
  rw [take_next h, List.foldl_append]
  rfl
theorem foldB_on : ∀ (M : List Ad) (b : R), M.foldl stepB (b, true) = (((hasM M).map (fun q => q.x)).foldl (fun b y => bestF b y.r) b, true)
  | [], b => rfl
  | q :: M, b => by
    rw [List.foldl_cons]
    unfold hasM
    rw [List.filter_cons]
    cases h : q.x.has with
    | false =>
      have e : stepB (b, true) q = (b, true) := by unfold stepB; rw [h]; rfl
      rw [e, foldB_on M b]
      rfl
    | true =>
      have e : stepB (b, true) q = (bestF b q.x.r, true) := by
        unfold stepB bestF
        rw [h]
        by_cases c : cmpR b q.x.r < 0
        · rw [if_pos c]; simp [c]
        · rw [if_neg c]; simp [c]
      rw [e, foldB_on M (bestF b q.x.r)]
      rfl
theorem foldB_all : ∀ (M : List Ad), foldB M = (bestL ((hasM M).map (fun q => q.x)), !((hasM M).map (fun q => q.x)).isEmpty)
  | [] => rfl
  | q :: M => by
    cases h : q.x.has with
    | false =>
      have e : foldB (q :: M) = foldB M := by
        unfold foldB
        rw [List.foldl_cons]
        have : stepB (zeroR, false) q = (zeroR, false) := by unfold stepB; rw [h]; rfl
        rw [this]
      have e2 : hasM (q :: M) = hasM M := by unfold hasM; rw [List.filter_cons, h]; rfl
      rw [e, e2, foldB_all M]
    | true =>
      have e : foldB (q :: M) = M.foldl stepB (q.x.r, true) := by
        unfold foldB
        rw [List.foldl_cons]
        have : stepB (zeroR, false) q = (q.x.r, true) := by unfold stepB; rw [h]; rfl
        rw [this]
      have e2 : hasM (q :: M) = q :: hasM M := by unfold hasM; rw [List.filter_cons, h]; rfl
      rw [e, e2, foldB_on M q.x.r]
      rfl
theorem foldB_is (a : Aq) : foldB (memL a) = (bestQ a, someQ a) := by rw [foldB_all, hasM_is]; rfl
/- Who has less. -/
def lessM (b : R) (q : Ad) : Bool := q.c && !(q.x.has && decide (0 ≤ cmpR q.x.r b))
theorem lessM_is (a : Aq) (b : R) (n : Int) : lessM b (memQ a n) = lessB a b n := by
  unfold lessM lessB
  rw [mem_has]
  unfold saysB
  show (a.come n.toNat && !((a.come n.toNat && (a.rp n.toNat).has) && decide (0 ≤ cmpR (memQ a n).x.r b))) = _
  cases h : a.come n.toNat with
  | false => rfl
  | true =>
    cases h2 : (a.rp n.toNat).has with
    | false => rfl
    | true =>
      rw [mem_yes (by unfold saysB; rw [h, h2]; rfl)]
      by_cases c : cmpR (a.rp n.toNat).r b < 0
      · have c2 : ¬ 0 ≤ cmpR (a.rp n.toNat).r b := by omega
        simp [c, c2]
      · have c2 : 0 ≤ cmpR (a.rp n.toNat).r b := by omega
        simp [c, c2]
def behM (b : R) (M : List Ad) : List Int := (M.filter (lessM b)).map (fun q => q.n)
theorem behM_is (a : Aq) (b : R) : behM b (memL a) = a.l.filter (lessB a b) := by
  unfold behM memL
  rw [map_filter, List.map_map]
  have e : a.l.filter (fun n => lessM b (memQ a n)) = a.l.filter (lessB a b) := List.filter_congr (fun n _ => lessM_is a b n)
  rw [e]
  exact (List.map_congr_left (fun n _ => rfl)).trans (List.map_id _)
theorem behM_next {b : R} {M : List Ad} {k : Nat} {y : Ad} (h : M[k]? = some y) : behM b (M.take (k + 1)) = behM b (M.take k) ++ (if lessM b y then [y.n] else []) := by
  unfold behM
  rw [take_next h, List.filter_append, List.map_append]
  congr 1
  cases e : lessM b y <;> simp [e]
theorem behM_len (b : R) (M : List Ad) : (behM b M).length ≤ M.length := by unfold behM; rw [List.length_map]; exact List.length_filter_le _ _
/- Whether all have answered. -/
theorem allC_is (a : Aq) : (memL a).any (fun q => !q.c) = !allC a := by
  unfold memL allC
  rw [List.any_map, Bool.eq_iff_iff]
  simp only [List.any_eq_true, Bool.not_eq_true', List.all_eq_false]
  constructor
  · rintro ⟨n, h1, h2⟩
    exact ⟨n, h1, by simpa [memQ] using h2⟩
  · rintro ⟨n, h1, h2⟩
    exact ⟨n, h1, by simpa [memQ] using h2⟩
/- Whether the best is live: with one key, records that compare as the same are the same. -/
theorem live_is {K : ByteArray} {a : Aq} (g : Ga K a) : (decide ((bestQ a).kind = 3) && (memL a).any (liveP (bestQ a))) = liveQ a := by
  unfold liveQ liveL
  rw [Bool.eq_iff_iff, Bool.and_eq_true, List.any_eq_true, List.any_eq_true, decide_eq_true_eq]
  constructor
  · rintro ⟨hk, q, hq, hl⟩
    unfold liveP at hl
    simp only [Bool.and_eq_true, Bool.not_eq_true', sameR_iff] at hl
    obtain ⟨⟨h1, h2⟩, h3⟩ := hl
    have hx : q.x ∈ hasL a := by
      rw [← hasM_is]
      exact List.mem_map.2 ⟨q, List.mem_filter.2 ⟨hq, h1⟩, rfl⟩
    refine ⟨q.x, hx, ?_⟩
    rw [h3, cmpR_self, h2, hk]
    rfl
  · rintro ⟨x, hx, hl⟩
    simp only [Bool.and_eq_true, Bool.not_eq_true', decide_eq_true_eq] at hl
    obtain ⟨⟨h1, h2⟩, h3⟩ := hl
    refine ⟨h3, ?_⟩
    have hh := hx
    rw [← hasM_is] at hh
    obtain ⟨q, hq, rfl⟩ := List.mem_map.1 hh
    obtain ⟨hq1, hq2⟩ := List.mem_filter.1 hq
    refine ⟨q, hq1, ?_⟩
    unfold liveP
    have hn : hasL a ≠ [] := by intro e; rw [e] at hx; simp at hx
    obtain ⟨⟨y, hy, e⟩, -⟩ := best_is hn
    have hbk : (bestQ a).key = K := by show (bestL (hasL a)).key = K; rw [e]; exact has_key g hy
    have he : q.x.r = bestQ a := cmpR_eq ((has_key g hx).trans hbk.symm) h1
    have hs : q.x.has = true := hq2
    rw [hs, h2, (sameR_iff _ _).2 he]
    rfl
/- A member's answer is laid in. -/
theorem mem_take {K : ByteArray} {a : Aq} (g : Ga K a) {n : Int} {x : Rp} {i : Nat} (hi : a.l[i]? = some n) (hm : a.come n.toNat = false) : memL (takeQ a n x) = (memL a).set i ⟨n, true, if x.has then x else zeroRp⟩ := by
  have hy : mayT a n = true := by
    unfold mayT
    rw [hm, inL_iff.2 (List.mem_of_getElem? hi)]
    rfl
  rw [take_yes hy]
  unfold memL
  apply List.ext_getElem?
  intro j
  rw [List.getElem?_map, List.getElem?_set, List.getElem?_map, List.length_map]
  have hil := (List.getElem?_eq_some_iff.1 hi).1
  by_cases e : i = j
  · subst e
    rw [if_pos rfl, if_pos hil, hi]
    show some _ = some _
    congr 1
    unfold memQ saysB upN
    simp only [if_pos]
    cases x.has <;> simp
  · rw [if_neg e]
    show (a.l[j]?).map _ = (a.l[j]?).map _
    cases hj : a.l[j]? with
    | none => rfl
    | some m =>
      have hne : m ≠ n := by
        rintro rfl
        have hjl := (List.getElem?_eq_some_iff.1 hj).1
        have e1 := (List.getElem?_eq_some_iff.1 hi).2
        have e2 := (List.getElem?_eq_some_iff.1 hj).2
        have hp := List.pairwise_iff_getElem.1 g.once
        rcases Nat.lt_or_gt_of_ne e with q | q
        · exact hp i j hil hjl q (e1.trans e2.symm)
        · exact hp j i hjl hil q (e2.trans e1.symm)
      have h1 := g.node n (List.mem_of_getElem? hi)
      have h2 := g.node m (List.mem_of_getElem? hj)
      have hnn : ¬ (m.toNat = n.toNat) := by omega
      show some _ = some _
      congr 1
      unfold memQ saysB upN
      simp only [if_neg hnn]
end Go.Proofs.YtjmldnbepajnoaaR
