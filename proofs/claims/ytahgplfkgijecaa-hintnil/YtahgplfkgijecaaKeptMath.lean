/- Plain mathematics: a hint stays until a later one of its key takes its place, or a settling whose owners all have acked it. -/
import Derived.Test.YtahgplfkgijecaaToldMath
namespace Go.Proofs.Ytahgplfkgijecaa
set_option linter.unusedVariables false
set_option linter.unusedSimpArgs false

/- The hint of r is there; those that have it are among those that are known. -/
def Held (l : List Ht) (r : R) (A : Nat → Bool) : Prop := ∃ h ∈ l, h.r = r ∧ ∀ q, h.has q = true → A q = true
theorem held_may {n : Nat} {l : List Ht} {r : R} {A : Nat → Bool} (g : Hg n l) (h : Held l r A) : badA r = false := by
  obtain ⟨x, hx, rfl, _⟩ := h
  have := g.may x hx
  unfold badA
  simp [this.1, this.2.1]
theorem held_first {n : Nat} {r : R} (hn : 1 ≤ n) (h : addE n [] r = 0) : Held (addL n [] r) r nob := by
  have hb : badA r = false := by
    cases hb : badA r with
    | false => rfl
    | true => unfold addE at h; rw [if_pos hb] at h; cases h
  have hn2 : ¬ n ≤ ([] : List Ht).length := by simp; omega
  have : addL n [] r = insH r [] := by
    unfold addL
    rw [if_neg (by rw [hb]; decide)]
    show (if n ≤ ([] : List Ht).length then ([] : List Ht) else insH r []) = insH r []
    rw [if_neg hn2]
  rw [this]
  exact ⟨⟨r, nob⟩, by simp [insH], rfl, fun q h => by simp [nob] at h⟩
/- The place of a key is one. -/
theorem fnd_held {l : List Ht} (hr : Rise l) {x : Ht} (hx : x ∈ l) : ∃ i, fnd x.r.key l = some i ∧ l[i]? = some x := by
  obtain ⟨i, hi⟩ := List.mem_iff_getElem?.1 hx
  exact ⟨i, fnd_of hi rfl (fun j y hj hy => cmpB_ne (rise_once (k := x.r.key) hr j i y x hy hi hj)), hi⟩
/- Another key's, or one that isn't later. -/
theorem held_add {n : Nat} {l : List Ht} {r : R} {A : Nat → Bool} (g : Hg n l) (h : Held l r A) (o : R) (hn : o.key = r.key → badA o = false → ¬ cmpR r o < 0) : Held (addL n l o) r A := by
  obtain ⟨x, hx, rfl, hA⟩ := h
  unfold addL
  cases hb : badA o with
  | true => rw [if_pos rfl]; exact ⟨x, hx, rfl, hA⟩
  | false =>
    rw [if_neg (by decide)]
    by_cases ek : o.key = x.r.key
    · obtain ⟨i, hf, hi⟩ := fnd_held g.rise hx
      rw [ek, hf]
      simp only
      have hnw : newer l i o = false := by
        unfold newer
        rw [hi]
        simpa using hn ek hb
      rw [hnw, if_neg (by decide)]
      exact ⟨x, hx, rfl, hA⟩
    · cases hf : fnd o.key l with
      | none =>
        simp only
        split
        · exact ⟨x, hx, rfl, hA⟩
        · exact ⟨x, ins_mem.2 (.inr hx), rfl, hA⟩
      | some i =>
        simp only
        split
        · obtain ⟨y, hy, hk, _⟩ := fnd_some hf
          obtain ⟨j, hj⟩ := List.mem_iff_getElem?.1 hx
          have hij : i ≠ j := by
            rintro rfl
            rw [hy] at hj
            injection hj with hj
            subst hj
            exact ek hk.symm
          refine ⟨x, List.mem_iff_getElem?.2 ⟨j, ?_⟩, rfl, hA⟩
          rw [List.getElem?_set, if_neg hij]; exact hj
        · exact ⟨x, hx, rfl, hA⟩
theorem add_ok {n : Nat} {l : List Ht} {r : R} {A : Nat → Bool} (g : Hg n l) (h : Held l r A) {o : R} (hk : o.key = r.key) (hb : badA o = false) : addE n l o = 0 := by
  obtain ⟨x, hx, rfl, _⟩ := h
  obtain ⟨i, hf, _⟩ := fnd_held g.rise hx
  unfold addE
  rw [if_neg (by rw [hb]; decide), hk, hf]
theorem add_bad {n : Nat} {l : List Ht} {o : R} (hb : badA o = true) : addE n l o = 1 := by
  unfold addE; rw [if_pos hb]
/- An ack that is of the hint is known; another one leaves it. -/
theorem held_ack {n : Nat} {l : List Ht} {r : R} {A : Nat → Bool} (g : Hg n l) (h : Held l r A) (key : ByteArray) (s : Stp) (node : Int) (B : Nat → Bool) (hAB : ∀ q, A q = true → B q = true) (hB : key = r.key → lt s r.s = false → node ≤ 63 → B node.toNat = true) : Held (ackL l key s node) r B := by
  obtain ⟨x, hx, rfl, hA⟩ := h
  by_cases hm : mayK l key s node = true
  · obtain ⟨i, y, hf, hy, hk, h63, hl, hh, e⟩ := ackL_at hm
    rw [e]
    by_cases ek : key = x.r.key
    · obtain ⟨j, hf2, hj⟩ := fnd_held g.rise hx
      rw [ek] at hf
      rw [hf] at hf2
      injection hf2 with hf2
      subst hf2
      rw [hy] at hj
      injection hj with hj
      subst hj
      refine ⟨⟨y.r, more y.has node.toNat⟩, List.mem_iff_getElem?.2 ⟨i, ?_⟩, rfl, fun q hq => ?_⟩
      · rw [List.getElem?_set, if_pos rfl, if_pos (List.getElem?_eq_some_iff.1 hy).1]
      · have hq2 : (y.has q || decide (q = node.toNat)) = true := hq
        rcases Bool.or_eq_true _ _ |>.mp hq2 with h1 | h1
        · exact hAB q (hA q h1)
        · rw [of_decide_eq_true h1]; exact hB ek hl h63
    · obtain ⟨j, hj⟩ := List.mem_iff_getElem?.1 hx
      have hij : i ≠ j := by
        rintro rfl
        rw [hy] at hj
        injection hj with hj
        subst hj
        exact ek hk.symm
      refine ⟨x, List.mem_iff_getElem?.2 ⟨j, ?_⟩, rfl, fun q hq => hAB q (hA q hq)⟩
      rw [List.getElem?_set, if_neg hij]; exact hj
  · unfold ackL
    rw [if_neg hm]
    exact ⟨x, hx, rfl, fun q hq => hAB q (hA q hq)⟩
/- A settling whose owners haven't all acked leaves it. -/
def allA (A : Nat → Bool) (key : ByteArray) (up : List Int) : Bool := decide (0 < (owners key up).length) && (owners key up).all (fun o => A o.toNat)
theorem held_set {l : List Ht} {r : R} {A : Nat → Bool} (h : Held l r A) {up : List Int} (hn : allA A r.key up = false) : Held (setL l up) r A := by
  obtain ⟨x, hx, rfl, hA⟩ := h
  refine ⟨x, ?_, rfl, hA⟩
  unfold setL
  refine List.mem_filter.2 ⟨hx, ?_⟩
  cases ha : allH up x with
  | false => rfl
  | true =>
    exfalso
    unfold allH at ha
    rw [Bool.and_eq_true] at ha
    have : allA A x.r.key up = true := by
      unfold allA
      rw [Bool.and_eq_true]
      refine ⟨ha.1, List.all_eq_true.2 fun o ho => hA _ (List.all_eq_true.1 ha.2 o ho)⟩
    rw [this] at hn; cases hn
end Go.Proofs.Ytahgplfkgijecaa
