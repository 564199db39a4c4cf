/- Plain mathematics: all nodes answer, one behind the other; who is left. -/
import Derived.Test.YtjmldnbepajnoaaRAkDom
namespace Go.Proofs.YtjmldnbepajnoaaR
set_option linter.unusedVariables false
set_option linter.unusedSimpArgs false

theorem inL_app (L : List Int) (y q : Int) : inL (L ++ [y]) q = (inL L q || y == q) := by unfold inL; simp
theorem beq_flip (y q : Int) : (y == q) = decide (q = y) := by
  by_cases e : q = y
  · subst e; simp
  · have e2 : ¬ y = q := fun h => e h.symm
    simp [e, e2]
/- Who is left. -/
def left (l L : List Int) (q : Int) : Option Bool := if inL l q && !inL L q then some true else none
theorem left_none (L : List Int) : left [] L = fun _ => none := by
  funext q
  unfold left inL
  simp
theorem left_put (l : List Int) (y : Int) : upd (left l []) y true = left (l ++ [y]) [] := by
  funext q
  unfold upd left
  rw [inL_app, beq_flip]
  by_cases e : q = y
  · rw [if_pos e]
    subst e
    simp [inL]
  · rw [if_neg e]
    simp [e]
theorem left_del (l L : List Int) (y : Int) : del (left l L) y = left l (L ++ [y]) := by
  funext q
  unfold del left
  rw [inL_app, beq_flip]
  by_cases e : q = y
  · rw [if_pos e]
    subst e
    simp
  · rw [if_neg e]
    simp [e]
theorem left_get {l L : List Int} {y : Int} (hy : y ∈ l) : (left l L y).getD false = !inL L y := by
  unfold left
  rw [inL_iff.2 hy]
  cases inL L y <;> rfl
structure Ov (K : ByteArray) (l : List Int) (u : Int) (L : List Int) (a : Aq) : Prop where
  l : a.l = onceL l
  u : a.u = u
  come : ∀ q, okU q → a.come q.toNat = inL L q
  ga : Ga K a
theorem ov_new {K : ByteArray} {l : List Int} {u : Int} (h1 : l.length ≤ 100) (h2 : U8 l) (hu : inU64 u) : Ov K l u [] (newQ l u) := ⟨rfl, rfl, fun q _ => rfl, ga_new h1 h2 hu⟩
theorem ov_may {K : ByteArray} {l L : List Int} {u : Int} {a : Aq} (o : Ov K l u L a) {y : Int} (hy : y ∈ l) (hk : okU y) : mayT a y = !inL L y := by
  unfold mayT
  rw [o.l, inL_iff.2 (once_mem.2 hy), o.come y hk, Bool.true_and]
theorem ovr_take {l L : List Int} {u : Int} {a : Aq} {x : Rp} (o : Ov x.r.key l u L a) {y : Int} (hy : y ∈ l) (hk : okU y) (hx : RpOk x) : Ov x.r.key l u (L ++ [y]) (takeQ a y x) := by
  have h1 := ov_may o hy hk
  refine ⟨(take_l a y x).1.trans o.l, (take_l a y x).2.trans o.u, fun q hq => ?_, ga_take o.ga hx (fun _ => rfl)⟩
  rw [inL_app, beq_flip]
  cases h : mayT a y with
  | true =>
    rw [take_yes h]
    show upN a.come y.toNat true q.toNat = _
    unfold upN
    by_cases e : q = y
    · subst e; simp
    · have e2 : ¬ q.toNat = y.toNat := by have := hq.1; have := hk.1; omega
      rw [if_neg e2, o.come q hq]
      simp [e]
  | false =>
    rw [take_no h, o.come q hq]
    rw [h] at h1
    by_cases e : q = y
    · subst e
      cases h2 : inL L q with
      | true => rfl
      | false => rw [h2] at h1; cases h1
    · simp [e]
theorem ov_all {K : ByteArray} {l L : List Int} {u : Int} {a : Aq} (o : Ov K l u L a) (h8 : U8 l) : allC a = decide (dom (left l L) = 0) := by
  rw [Bool.eq_iff_iff, decide_eq_true_eq, dom_zero]
  unfold allC
  rw [List.all_eq_true, o.l]
  constructor
  · intro h q hq
    unfold left
    by_cases e : q ∈ l
    · have := h q (once_mem.2 e)
      rw [o.come q hq] at this
      rw [this]
      simp
    · rw [inL_no.2 e]
      rfl
  · intro h q hq
    have hl := once_mem.1 hq
    have hk : okU q := h8 q hl
    rw [o.come q hk]
    have := h q hk
    unfold left at this
    rw [inL_iff.2 hl] at this
    cases e : inL L q with
    | true => rfl
    | false => rw [e] at this; cases this
theorem ov_end {K : ByteArray} {l : List Int} {u : Int} {a : Aq} (o : Ov K l u l a) (h8 : U8 l) (now : Int) : overQ a now = true := by
  unfold overQ
  rw [ov_all o h8]
  have : dom (left l l) = 0 := (dom_zero _).2 (fun q _ => by unfold left; cases inL l q <;> rfl)
  rw [this]
  simp
theorem ov_yes {K : ByteArray} {l L : List Int} {u : Int} {a : Aq} (o : Ov K l u L a) : (hasL a).length ≤ l.length := by
  have h1 := has_len a
  rw [o.l] at h1
  exact Nat.le_trans h1 (once_len l)
end Go.Proofs.YtjmldnbepajnoaaR
