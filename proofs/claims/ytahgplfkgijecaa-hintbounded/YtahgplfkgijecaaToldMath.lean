/- Plain mathematics: when all that miss hints have acked, nobody misses any and all are settled. -/
import Derived.Test.YtahgplfkgijecaaHintMath
namespace Go.Proofs.Ytahgplfkgijecaa
set_option linter.unusedVariables false
set_option linter.unusedSimpArgs false

theorem owners_apart (key : ByteArray) (up : List Int) : (owners key up).Pairwise (fun a b => a ≠ b) := by
  unfold owners
  rcases own_cases (wt key) (mem up) with ⟨e, _⟩ | ⟨a, e, _⟩ | ⟨a, b, e, g1, g2⟩ <;> rw [e]
  · exact .nil
  · simp
  · have h := (bst_some g2).has
    have hb : b ≠ a := (wo_true.1 h).2
    simp
    exact fun e => hb e.symm
theorem owners_void {key k2 : ByteArray} {up : List Int} (h : owners key up = []) : owners k2 up = [] := by
  unfold owners at *
  rcases own_cases (wt key) (mem up) with ⟨e, g⟩ | ⟨a, e, _⟩ | ⟨a, b, e, _⟩
  · rcases own_cases (wt k2) (mem up) with ⟨e2, g2⟩ | ⟨a, e2, g2, _⟩ | ⟨a, b, e2, g2, _⟩
    · exact e2
    · have t := bst_some g2
      have := bst_none g a t.lo t.hi
      rw [t.has] at this; cases this
    · have t := bst_some g2
      have := bst_none g a t.lo t.hi
      rw [t.has] at this; cases this
  · rw [e] at h; cases h
  · rw [e] at h; cases h
/- Hints, and those that have acked since. -/
def hits (ms : List Snd) (key : ByteArray) (q : Nat) : Bool := ms.any (fun s => decide (s.r.key = key) && decide (s.to.toNat = q))
def accH (ms : List Snd) (h : Ht) : Ht := ⟨h.r, fun q => h.has q || hits ms h.r.key q⟩
def accL (l : List Ht) (ms : List Snd) : List Ht := l.map (accH ms)
theorem acc_nil (l : List Ht) : accL l [] = l := by
  unfold accL
  have : accH [] = id := by funext h; cases h; simp [accH, hits]
  rw [this, List.map_id]
theorem hits_add (ms : List Snd) (s : Snd) (key : ByteArray) (q : Nat) : hits (ms ++ [s]) key q = (hits ms key q || (decide (s.r.key = key) && decide (s.to.toNat = q))) := by
  unfold hits; rw [List.any_append]; simp
theorem acc_at {l : List Ht} {ms : List Snd} {i : Nat} {h : Ht} (hi : l[i]? = some h) : (accL l ms)[i]? = some (accH ms h) := by
  unfold accL; rw [List.getElem?_map, hi]; rfl
theorem lt_self (s : Stp) : lt s s = false := by
  unfold lt; simp
theorem acc_step {l : List Ht} (hr : Rise l) {ms : List Snd} {i : Nat} {h : Ht} {o : Int} (hi : l[i]? = some h) (o1 : 0 ≤ o) (o2 : o < 64) (hn : h.has o.toNat = false) (hh : hits ms h.r.key o.toNat = false) :
    mayK (accL l ms) h.r.key h.r.s o = true ∧ ackL (accL l ms) h.r.key h.r.s o = accL l (ms ++ [⟨o, h.r⟩]) := by
  have hf : fnd h.r.key (accL l ms) = some i := by
    refine fnd_of (acc_at hi) rfl ?_
    intro j x hj hx
    unfold accL at hx
    rw [List.getElem?_map] at hx
    cases hy : l[j]? with
    | none => rw [hy] at hx; cases hx
    | some y =>
      rw [hy] at hx
      injection hx with hx
      subst hx
      exact cmpB_ne (rise_once (k := h.r.key) hr j i y h hy hi hj)
  have hm : mayK (accL l ms) h.r.key h.r.s o = true := by
    unfold mayK
    rw [hf]
    simp only [Bool.and_eq_true, decide_eq_true_eq]
    refine ⟨by omega, ?_⟩
    unfold fits
    rw [acc_at hi]
    simp [accH, lt_self, hn, hh]
  refine ⟨hm, ?_⟩
  unfold ackL
  rw [if_pos hm, hf]
  simp only
  unfold ackAt
  rw [acc_at hi]
  simp only
  refine List.ext_getElem? fun j => ?_
  rw [List.getElem?_set]
  by_cases e : i = j
  · subst e
    rw [if_pos rfl, acc_at hi]
    have hl : i < (accL l ms).length := by unfold accL; rw [List.length_map]; exact (List.getElem?_eq_some_iff.1 hi).1
    rw [if_pos hl]
    congr 1
    unfold accH
    congr 1
    funext q
    show (h.has q || hits ms h.r.key q || decide (q = o.toNat)) = (h.has q || hits (ms ++ [⟨o, h.r⟩]) h.r.key q)
    rw [hits_add, Bool.or_assoc]
    congr 2
    simp [eq_comm]
  · rw [if_neg e]
    unfold accL
    rw [List.getElem?_map, List.getElem?_map]
    cases hy : l[j]? with
    | none => rfl
    | some y =>
      show some (accH ms y) = some (accH (ms ++ [⟨o, h.r⟩]) y)
      congr 1
      unfold accH
      congr 1
      funext q
      rw [hits_add]
      have hne : h.r.key ≠ y.r.key := by
        rcases Nat.lt_or_gt_of_ne e with g | g
        · exact cmpB_ne (rise_once (k := h.r.key) hr i j h y hi hy g)
        · exact fun z => cmpB_ne (rise_once (k := h.r.key) hr j i y h hy hi g) z.symm
      simp [hne]
/- Those that miss hints. -/
theorem miss_mem {l : List Ht} {up : List Int} {s : Snd} (h : s ∈ missL l up) : ∃ (i : Nat) (x : Ht), l[i]? = some x ∧ s.r = x.r ∧ s.to ∈ owners x.r.key up ∧ x.has s.to.toNat = false := by
  unfold missL at h
  obtain ⟨x, hx, hs⟩ := List.mem_flatMap.1 h
  unfold missOf at hs
  obtain ⟨o, ho, e⟩ := List.mem_map.1 hs
  subst e
  obtain ⟨h1, h2⟩ := List.mem_filter.1 ho
  obtain ⟨i, hi⟩ := List.mem_iff_getElem?.1 hx
  exact ⟨i, x, hi, rfl, h1, by simpa using h2⟩
def Ap (a b : Snd) : Prop := ¬ (a.r.key = b.r.key ∧ a.to.toNat = b.to.toNat)
theorem rise_pair : ∀ {l : List Ht}, Rise l → l.Pairwise (fun g h => g.r.key ≠ h.r.key)
  | [], _ => .nil
  | x :: t, hr => .cons (fun y hy => cmpB_ne (hr.1 y hy)) (rise_pair hr.2)
theorem miss_apart {l : List Ht} {up : List Int} (hr : Rise l) : (missL l up).Pairwise Ap := by
  unfold missL
  rw [List.pairwise_flatMap]
  refine ⟨fun x hx => ?_, ?_⟩
  · unfold missOf
    rw [List.pairwise_map]
    refine List.Pairwise.imp_of_mem ?_ (List.Pairwise.filter _ (owners_apart x.r.key up))
    intro a b ha hb hab
    have h1 := (owners_in (List.mem_filter.1 ha).1)
    have h2 := owners_in (List.mem_filter.1 hb).1
    intro h
    have h3 : a.toNat = b.toNat := h.2
    exact hab (by omega)
  · refine List.Pairwise.imp ?_ (rise_pair hr)
    intro x y hxy a ha b hb h
    unfold missOf at ha hb
    obtain ⟨o, _, e⟩ := List.mem_map.1 ha
    obtain ⟨p, _, e2⟩ := List.mem_map.1 hb
    subst e e2
    exact hxy h.1
theorem miss_before {l : List Ht} {up : List Int} (hr : Rise l) {j : Nat} {s : Snd} (hj : (missL l up)[j]? = some s) : hits ((missL l up).take j) s.r.key s.to.toNat = false := by
  unfold hits
  rw [List.any_eq_false]
  intro y hy
  obtain ⟨i, hi⟩ := List.mem_iff_getElem?.1 hy
  rw [List.getElem?_take] at hi
  split at hi
  · rename_i hlt
    have h1 := List.pairwise_iff_getElem.1 (miss_apart (up := up) hr) i j (List.getElem?_eq_some_iff.1 hi).1 (List.getElem?_eq_some_iff.1 hj).1 hlt
    rw [(List.getElem?_eq_some_iff.1 hi).2, (List.getElem?_eq_some_iff.1 hj).2] at h1
    unfold Ap at h1
    simpa using h1
  · cases hi
/- One more has acked. -/
theorem told_step {n : Nat} {l : List Ht} {up : List Int} (g : Hg n l) {j : Nat} {s : Snd} (hj : (missL l up)[j]? = some s) :
    mayK (accL l ((missL l up).take j)) s.r.key s.r.s s.to = true ∧ ackL (accL l ((missL l up).take j)) s.r.key s.r.s s.to = accL l ((missL l up).take (j + 1)) ∧ mem (owners s.r.key up) s.to = true ∧ s.r.key.size ≤ 1000 ∧ s.r.s.ok ∧ 0 ≤ s.to ∧ s.to < 64 := by
  obtain ⟨i, x, hi, e, ho, hn⟩ := miss_mem (List.mem_of_getElem? hj)
  have hb := miss_before g.rise hj
  have ho2 : 0 ≤ s.to ∧ s.to < 64 := ⟨(owners_in ho).1, (owners_in ho).2.1⟩
  obtain ⟨to, r⟩ := s
  simp only at e ho hn hb ho2 ⊢
  subst e
  obtain ⟨h1, h2⟩ := acc_step g.rise hi ho2.1 ho2.2 hn hb
  have hm := g.may x (List.mem_of_getElem? hi)
  refine ⟨h1, ?_, by unfold mem; simpa using ho, ?_, hm.2.2.2.1, ho2.1, ho2.2⟩
  · rw [h2, List.take_add_one, hj]; rfl
  · have := hm.1
    unfold mayR keyMay at this
    simp only [Bool.and_eq_true, decide_eq_true_eq] at this
    omega
theorem hits_miss {l : List Ht} {up : List Int} {h : Ht} (hm : h ∈ l) {o : Int} (ho : o ∈ owners h.r.key up) (hn : h.has o.toNat = false) : hits (missL l up) h.r.key o.toNat = true := by
  unfold hits
  rw [List.any_eq_true]
  refine ⟨⟨o, h.r⟩, ?_, by simp⟩
  unfold missL
  refine List.mem_flatMap.2 ⟨h, hm, ?_⟩
  unfold missOf
  exact List.mem_map.2 ⟨o, List.mem_filter.2 ⟨ho, by simpa using hn⟩, rfl⟩
theorem acc_has {l : List Ht} {up : List Int} {h : Ht} (hm : h ∈ l) {o : Int} (ho : o ∈ owners h.r.key up) : (accH (missL l up) h).has o.toNat = true := by
  show (h.has o.toNat || hits (missL l up) h.r.key o.toNat) = true
  cases hn : h.has o.toNat with
  | true => rfl
  | false => rw [hits_miss hm ho hn]; rfl
/- Nobody misses any. -/
theorem told_miss (l : List Ht) (up : List Int) : missL (accL l (missL l up)) up = [] := by
  unfold missL
  rw [List.flatMap_eq_nil_iff]
  intro x hx
  obtain ⟨h, hm, rfl⟩ := List.mem_map.1 hx
  show List.map _ _ = []
  rw [List.map_eq_nil_iff, List.filter_eq_nil_iff]
  intro o ho
  have := acc_has hm ho
  unfold missL at this
  simp [this]
/- With owners all are settled; with none, none. -/
theorem told_all {l : List Ht} {up : List Int} {key : ByteArray} (h : owners key up ≠ []) : setL (accL l (missL l up)) up = [] := by
  unfold setL
  rw [List.filter_eq_nil_iff]
  intro x hx
  obtain ⟨g, hm, rfl⟩ := List.mem_map.1 hx
  have hne : owners g.r.key up ≠ [] := fun e => h (owners_void e)
  have h1 : 0 < (owners g.r.key up).length := List.length_pos_iff.2 hne
  have h2 : (owners g.r.key up).all (fun o => (accH (missL l up) g).has o.toNat) = true := List.all_eq_true.2 (fun o ho => acc_has hm ho)
  have : allH up (accH (missL l up) g) = true := by
    unfold allH
    rw [show (accH (missL l up) g).r = g.r from rfl, h2]
    simpa using h1
  simp [this]
theorem told_none {l : List Ht} {up : List Int} {key : ByteArray} (h : owners key up = []) : setL l up = l := by
  unfold setL
  rw [List.filter_eq_self]
  intro x hx
  have : allH up x = false := by
    unfold allH
    rw [owners_void (k2 := x.r.key) h]
    rfl
  simp [this]
theorem acc_len (l : List Ht) (ms : List Snd) : (accL l ms).length = l.length := by unfold accL; exact List.length_map _
end Go.Proofs.Ytahgplfkgijecaa
