/- The plain mathematics of a store: its records as a row, the one used last first, its floors; what Put, Get and Purge make of it; ranges and digests. No condition but those that are stated. -/
import Derived.Test.YthgbdaladngpdaaGreatRec
import Derived.Test.YthgbdaladngpdaaGreatMixTexts
import Derived.Test.YthgbdaladngpdaaGreatDig
namespace Go.Proofs.YthgbdaladngpdaaGreat
set_option linter.unusedVariables false
set_option linter.unusedSimpArgs false

def rg (k : ByteArray) : Nat := (textI k.data.toList k.size / 288230376151711744).toNat
theorem rg_int (k : ByteArray) : textI k.data.toList k.size / 288230376151711744 = (rg k : Int) := by
  have := bounds_u64 (wf_textI k.data.toList k.size)
  unfold rg; omega
theorem rg_lt (k : ByteArray) : rg k < 64 := by
  have := bounds_u64 (wf_textI k.data.toList k.size)
  unfold rg; omega
def lenR (r : R) : Nat := r.key.size + r.body.size
def sizeL : List R → Nat
  | [] => 0
  | r :: l => lenR r + sizeL l
def dgN (r : R) : Nat := (digR r).toNat
theorem dgN_int (r : R) : digR r = (dgN r : Int) := by
  have := bounds_u64 (wf_twoI (twoI (twoI (twoI (textI r.key.data.toList r.key.size) r.s.p) (IntKind.u64.wrap r.s.l)) (IntKind.u64.wrap r.s.n)) (IntKind.u64.wrap r.kind))
  unfold dgN digR at *; omega
theorem dgN_lt (r : R) : dgN r < 18446744073709551616 := by
  have := bounds_u64 (wf_twoI (twoI (twoI (twoI (textI r.key.data.toList r.key.size) r.s.p) (IntKind.u64.wrap r.s.l)) (IntKind.u64.wrap r.s.n)) (IntKind.u64.wrap r.kind))
  unfold dgN digR at *; omega
def digL (k : Nat) : List R → Nat
  | [] => 0
  | r :: l => if rg r.key = k then dgN r ^^^ digL k l else digL k l
theorem xor_lt {a b : Nat} (ha : a < 18446744073709551616) (hb : b < 18446744073709551616) : a ^^^ b < 18446744073709551616 := Nat.xor_lt_two_pow (n := 64) ha hb
theorem digL_lt (k : Nat) : ∀ l, digL k l < 18446744073709551616
  | [] => by unfold digL; omega
  | r :: l => by
    unfold digL
    split
    · exact xor_lt (dgN_lt r) (digL_lt k l)
    · exact digL_lt k l
theorem sizeL_perm {a b : List R} (h : a.Perm b) : sizeL a = sizeL b := by
  induction h with
  | nil => rfl
  | cons x _ ih => simp only [sizeL]; omega
  | swap x y l => simp only [sizeL]; omega
  | trans _ _ h1 h2 => omega
theorem digL_perm (k : Nat) {a b : List R} (h : a.Perm b) : digL k a = digL k b := by
  induction h with
  | nil => rfl
  | cons x _ ih => simp only [digL, ih]
  | swap x y l =>
    simp only [digL]
    by_cases h1 : rg x.key = k
    · by_cases h2 : rg y.key = k
      · simp only [h1, h2, if_true]
        rw [← Nat.xor_assoc, ← Nat.xor_assoc, Nat.xor_comm (dgN y)]
      · simp only [h1, h2, if_true, if_false]
    · by_cases h2 : rg y.key = k
      · simp only [h1, h2, if_true, if_false]
      · simp only [h1, h2, if_false]
  | trans _ _ h1 h2 => rw [h1, h2]
theorem digL_out {k : Nat} {r : R} {l : List R} : digL k (r :: l) ^^^ (if rg r.key = k then dgN r else 0) = digL k l := by
  rw [digL]
  split
  · rw [Nat.xor_comm (dgN r), Nat.xor_assoc, Nat.xor_self, Nat.xor_zero]
  · rw [Nat.xor_zero]
theorem digL_filter (k : Nat) : ∀ l : List R, digL k l = digL k (l.filter (fun r => decide (rg r.key = k)))
  | [] => rfl
  | r :: l => by
    by_cases h : rg r.key = k
    · rw [List.filter_cons_of_pos (by simpa using h)]
      unfold digL
      rw [if_pos h, if_pos h, ← digL_filter k l]
    · rw [List.filter_cons_of_neg (by simpa using h), ← digL_filter k l]
      rw [digL, if_neg h]

def Keys (L : List R) : Prop := L.Pairwise (fun a b => a.key ≠ b.key)
def findK (L : List R) (k : ByteArray) : Option R := L.find? (fun r => decide (r.key = k))
def woK (L : List R) (k : ByteArray) : List R := L.filter (fun r => decide (r.key ≠ k))
theorem find_none {L : List R} {k : ByteArray} : findK L k = none ↔ ∀ r ∈ L, r.key ≠ k := by
  unfold findK
  rw [List.find?_eq_none]
  simp
theorem find_some {L : List R} {k : ByteArray} {q : R} (h : findK L k = some q) : q ∈ L ∧ q.key = k := by
  unfold findK at h
  exact ⟨List.mem_of_find?_eq_some h, by simpa using List.find?_some h⟩
theorem keys_eq {L : List R} (h : Keys L) {a b : R} (ha : a ∈ L) (hb : b ∈ L) (e : a.key = b.key) : a = b := by
  induction L with
  | nil => cases ha
  | cons x l ih =>
    obtain ⟨h1, h2⟩ := List.pairwise_cons.1 h
    rcases List.mem_cons.1 ha with ea | ha'
    · rcases List.mem_cons.1 hb with eb | hb'
      · rw [ea, eb]
      · rw [ea] at e; exact absurd e (h1 b hb')
    · rcases List.mem_cons.1 hb with eb | hb'
      · rw [eb] at e; exact absurd e.symm (h1 a ha')
      · exact ih h2 ha' hb'
theorem find_of {L : List R} (h : Keys L) {q : R} (hq : q ∈ L) : findK L q.key = some q := by
  cases e : findK L q.key with
  | none => exact absurd rfl (find_none.1 e q hq)
  | some p => rw [keys_eq h (find_some e).1 hq (find_some e).2]
theorem wo_none {L : List R} {k : ByteArray} (h : ∀ r ∈ L, r.key ≠ k) : woK L k = L := by
  unfold woK
  rw [List.filter_eq_self]
  intro a ha
  simpa using h a ha
theorem woK_mem {L : List R} {k : ByteArray} {r : R} : r ∈ woK L k ↔ r ∈ L ∧ r.key ≠ k := by unfold woK; simp
theorem woK_perm {L : List R} (h : Keys L) {q : R} (hq : q ∈ L) : L.Perm (q :: woK L q.key) := by
  induction L with
  | nil => cases hq
  | cons x l ih =>
    obtain ⟨h1, h2⟩ := List.pairwise_cons.1 h
    rcases List.mem_cons.1 hq with rfl | hq
    · unfold woK
      rw [List.filter_cons_of_neg (by simp)]
      rw [show l.filter (fun r => decide (r.key ≠ q.key)) = l from wo_none (fun r hr => Ne.symm (h1 r hr))]
    · unfold woK
      rw [List.filter_cons_of_pos (by simpa using h1 q hq)]
      exact ((ih h2 hq).cons x).trans (List.Perm.swap q x _)
theorem keys_wo {L : List R} (h : Keys L) (k : ByteArray) : Keys (woK L k) := h.filter _
theorem wo_len (L : List R) (k : ByteArray) : (woK L k).length ≤ L.length := List.length_filter_le _ _
theorem wo_size : ∀ (L : List R) (k : ByteArray), sizeL (woK L k) ≤ sizeL L
  | [], _ => Nat.le_refl _
  | r :: l, k => by
    have := wo_size l k
    unfold woK at *
    by_cases h : r.key ≠ k
    · rw [List.filter_cons_of_pos (by simpa using h)]; unfold sizeL; omega
    · rw [List.filter_cons_of_neg (by simpa using h)]; rw [sizeL]; omega

theorem may_len {r : R} (h : mayR r = true) : lenR r ≤ 1274 ∧ r.key.size ≤ 250 := by
  unfold mayR keyMay contentMay at h
  simp only [Bool.and_eq_true, decide_eq_true_iff] at h
  obtain ⟨⟨⟨_, h1⟩, _⟩, _, h2⟩ := h
  unfold lenR
  split at h2
  · simp only [Bool.and_eq_true, decide_eq_true_iff] at h2; omega
  · split at h2
    · simp only [Bool.and_eq_true, decide_eq_true_iff] at h2; omega
    · cases h2
theorem size_bound : ∀ (L : List R), (∀ r ∈ L, mayR r = true) → sizeL L ≤ L.length * 1274
  | [], _ => Nat.le_refl _
  | r :: l, h => by
    have h1 := size_bound l (fun x hx => h x (List.mem_cons_of_mem _ hx))
    have h2 := (may_len (h r List.mem_cons_self)).1
    simp only [sizeL, List.length_cons]
    omega
/- A store's bounds; a store. -/
structure Cf where
  n : Nat
  B : Nat
  K : Nat
def Cf.may (c : Cf) : Prop := 1 ≤ c.n ∧ c.n ≤ 1024 ∧ 1 ≤ c.B ∧ c.B ≤ 1048576 ∧ 1 ≤ c.K ∧ c.K ≤ 1000
structure MS where
  L : List R
  fl : Nat → Stp
  ev : Nat
def MS0 : MS := ⟨[], fun _ => zero, 0⟩
def raise (f : Nat → Stp) (r : R) : Nat → Stp := fun k => if k = rg r.key ∧ lt (f k) r.s = true then r.s else f k
def evictM (s : MS) : MS := if h : s.L = [] then s else ⟨s.L.dropLast, raise s.fl (s.L.getLast h), s.ev + 1⟩
theorem evictM_snoc (L : List R) (r : R) (f : Nat → Stp) (e : Nat) : evictM ⟨L ++ [r], f, e⟩ = ⟨L, raise f r, e + 1⟩ := by
  unfold evictM
  rw [dif_neg (by simp)]
  simp
def over (c : Cf) (b : Nat) (L : List R) : Prop := c.n ≤ L.length ∨ c.B < sizeL L + b
instance (c : Cf) (b : Nat) (L : List R) : Decidable (over c b L) := by unfold over; infer_instance
def roomM (c : Cf) (b : Nat) : Nat → MS → MS
  | 0, s => s
  | f + 1, s => if over c b s.L then roomM c b f (evictM s) else s
def room (c : Cf) (b : Nat) (s : MS) : MS := roomM c b s.L.length s
theorem room_stop {c : Cf} {b : Nat} {s : MS} (h : ¬ over c b s.L) : room c b s = s := by
  unfold room
  cases s.L.length with
  | zero => rfl
  | succ n => unfold roomM; rw [if_neg h]
theorem room_on {c : Cf} {b : Nat} {L : List R} {r : R} {f : Nat → Stp} {e : Nat} (h : over c b (L ++ [r])) : room c b ⟨L ++ [r], f, e⟩ = room c b ⟨L, raise f r, e + 1⟩ := by
  unfold room
  have e1 : (L ++ [r]).length = L.length + 1 := by simp
  show roomM c b (L ++ [r]).length ⟨L ++ [r], f, e⟩ = roomM c b L.length ⟨L, raise f r, e + 1⟩
  rw [e1, roomM]
  show (if over c b (L ++ [r]) then _ else _) = _
  rw [if_pos h, evictM_snoc]
theorem over_none {c : Cf} (h : c.may) {b : Nat} (hb : b ≤ c.B) : ¬ over c b [] := by
  unfold over
  have := h.1
  simp only [List.length_nil, sizeL]
  omega
def putK (c : Cf) (s : MS) (r : R) (now : Int) : Int :=
  if mayR r = false then 1 else if r.s.p + (c.K : Int) ≤ now then 8 else
  match findK s.L r.key with
  | some q => if cmpR r q = 0 then 0 else if cmpR r q < 0 then 8 else if c.B < lenR r then 6 else 100
  | none => if lt (s.fl (rg r.key)) r.s = true then (if c.B < lenR r then 6 else 100) else 8
def newer (c : Cf) (s : MS) (r : R) : MS := ⟨r :: (room c (lenR r) ⟨woK s.L r.key, s.fl, s.ev⟩).L, (room c (lenR r) ⟨woK s.L r.key, s.fl, s.ev⟩).fl, (room c (lenR r) ⟨woK s.L r.key, s.fl, s.ev⟩).ev⟩
def putS (c : Cf) (s : MS) (r : R) (now : Int) : MS := if putK c s r now = 100 then newer c s r else s
def putE (c : Cf) (s : MS) (r : R) (now : Int) : Int := if putK c s r now = 100 then 0 else putK c s r now
def putB (c : Cf) (s : MS) (r : R) (now : Int) : Bool := decide (putK c s r now = 100)
def getS (s : MS) (k : ByteArray) : MS := match findK s.L k with
  | some q => ⟨q :: woK s.L k, s.fl, s.ev⟩
  | none => s
def purgeS (c : Cf) (s : MS) (now : Int) : MS := ⟨s.L.filter (fun r => decide (now < r.s.p + (c.K : Int))), s.fl, s.ev⟩
/- What is always so. -/
structure Fit (c : Cf) (s : MS) : Prop where
  keys : Keys s.L
  may : ∀ r ∈ s.L, mayR r = true
  ok : ∀ r ∈ s.L, r.ok
  len : s.L.length ≤ c.n
  size : sizeL s.L ≤ c.B
theorem fit_new {c : Cf} : Fit c MS0 := ⟨List.Pairwise.nil, by simp [MS0], by simp [MS0], by simp [MS0], by simp [MS0, sizeL]⟩
theorem size_app : ∀ (L : List R) (r : R), sizeL (L ++ [r]) = sizeL L + lenR r
  | [], r => by simp [sizeL]
  | x :: l, r => by
    rw [List.cons_append, sizeL, size_app l r, sizeL]; omega
/- A row of which some are taken off its end. -/
theorem room_ind {c : Cf} {b : Nat} (P : MS → Prop) (hP : ∀ L r f e, P ⟨L ++ [r], f, e⟩ → over c b (L ++ [r]) → P ⟨L, raise f r, e + 1⟩) (hc : c.may) (hb : b ≤ c.B) : ∀ (n : Nat) (s : MS), s.L.length = n → P s → P (room c b s) ∧ ¬ over c b (room c b s).L
  | 0, s, hn, h => by
    have h0 : s.L = [] := List.eq_nil_of_length_eq_zero hn
    have h1 : ¬ over c b s.L := by rw [h0]; exact over_none hc hb
    rw [room_stop h1]
    exact ⟨h, h1⟩
  | n + 1, s, hn, h => by
    by_cases ho : over c b s.L
    · obtain ⟨L, f, e⟩ := s
      have hne : L ≠ [] := by rintro rfl; simp at hn
      obtain ⟨L', r, rfl⟩ : ∃ L' r, L = L' ++ [r] := ⟨L.dropLast, L.getLast hne, (List.dropLast_concat_getLast hne).symm⟩
      rw [room_on ho]
      exact room_ind P hP hc hb n _ (by simpa using hn) (hP L' r f e h ho)
    · rw [room_stop ho]
      exact ⟨h, ho⟩
theorem room_pre {c : Cf} {b : Nat} (hc : c.may) (hb : b ≤ c.B) (s : MS) : ∃ t, s.L = (room c b s).L ++ t := by
  refine (room_ind (fun q => ∃ t, s.L = q.L ++ t) (fun L r f e h _ => ?_) hc hb _ s rfl ⟨[], by simp⟩).1
  obtain ⟨t, h⟩ := h
  exact ⟨r :: t, by simpa using h⟩
theorem room_fits {c : Cf} {b : Nat} (hc : c.may) (hb : b ≤ c.B) (s : MS) : ¬ over c b (room c b s).L := (room_ind (fun _ => True) (fun _ _ _ _ _ _ => trivial) hc hb _ s rfl trivial).2
theorem fit_newer {c : Cf} {s : MS} {r : R} (hc : c.may) (h : Fit c s) (hm : mayR r = true) (hk : r.ok) (hb : lenR r ≤ c.B) : Fit c (newer c s r) := by
  obtain ⟨t, ht⟩ := room_pre hc hb ⟨woK s.L r.key, s.fl, s.ev⟩
  have hf := room_fits hc hb ⟨woK s.L r.key, s.fl, s.ev⟩
  unfold newer
  generalize room c (lenR r) ⟨woK s.L r.key, s.fl, s.ev⟩ = q at *
  change woK s.L r.key = q.L ++ t at ht
  have hk1 : Keys (q.L ++ t) := ht ▸ keys_wo h.keys r.key
  have hm1 : ∀ x ∈ q.L, x ∈ s.L ∧ x.key ≠ r.key := fun x hx => woK_mem.1 (by rw [ht]; exact List.mem_append_left _ hx)
  unfold over at hf
  refine ⟨List.pairwise_cons.2 ⟨fun x hx => Ne.symm (hm1 x hx).2, (List.pairwise_append.1 hk1).1⟩, ?_, ?_, ?_, ?_⟩
  · intro x hx
    rcases List.mem_cons.1 hx with rfl | hx
    · exact hm
    · exact h.may x (hm1 x hx).1
  · intro x hx
    rcases List.mem_cons.1 hx with rfl | hx
    · exact hk
    · exact h.ok x (hm1 x hx).1
  · simp only [List.length_cons]; omega
  · simp only [sizeL]; omega
theorem putK_100 {c : Cf} {s : MS} {r : R} {now : Int} (h : putK c s r now = 100) : mayR r = true ∧ lenR r ≤ c.B ∧ now < r.s.p + (c.K : Int) := by
  unfold putK at h
  split at h
  · omega
  · rename_i h1
    split at h
    · omega
    · rename_i h2
      refine ⟨by simpa using h1, ?_, by omega⟩
      split at h
      · split at h
        · omega
        · split at h
          · omega
          · split at h
            · omega
            · omega
      · split at h
        · split at h
          · omega
          · omega
        · omega
theorem fit_put {c : Cf} {s : MS} {r : R} {now : Int} (hc : c.may) (h : Fit c s) (hk : r.ok) : Fit c (putS c s r now) := by
  unfold putS
  split
  · rename_i h1
    obtain ⟨h2, h3, _⟩ := putK_100 h1
    exact fit_newer hc h h2 hk h3
  · exact h
theorem fit_get {c : Cf} {s : MS} (h : Fit c s) (k : ByteArray) : Fit c (getS s k) := by
  unfold getS
  split
  · rename_i q hq
    obtain ⟨h1, rfl⟩ := find_some hq
    have hp := woK_perm h.keys h1
    refine ⟨List.pairwise_cons.2 ⟨fun x hx => Ne.symm (woK_mem.1 hx).2, keys_wo h.keys _⟩, fun x hx => h.may x (hp.mem_iff.2 hx), fun x hx => h.ok x (hp.mem_iff.2 hx), ?_, ?_⟩
    · have := hp.length_eq; have := h.len; simp only [List.length_cons] at *; omega
    · have := sizeL_perm hp; have := h.size; show sizeL (q :: woK s.L q.key) ≤ _; omega
  · exact h
theorem size_filter (p : R → Bool) : ∀ L : List R, sizeL (L.filter p) ≤ sizeL L
  | [] => Nat.le_refl _
  | r :: l => by
    have := size_filter p l
    by_cases h : p r = true
    · rw [List.filter_cons_of_pos h]; unfold sizeL; omega
    · rw [List.filter_cons_of_neg h]; rw [sizeL]; omega
theorem fit_purge {c : Cf} {s : MS} (h : Fit c s) (now : Int) : Fit c (purgeS c s now) :=
  ⟨h.keys.filter _, fun x hx => h.may x (List.mem_filter.1 hx).1, fun x hx => h.ok x (List.mem_filter.1 hx).1, Nat.le_trans (List.length_filter_le _ _) h.len, Nat.le_trans (size_filter _ _) h.size⟩
end Go.Proofs.YthgbdaladngpdaaGreat
