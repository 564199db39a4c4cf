/- The plain mathematics of a sweep: what is seen of records, what is pushed, which keys are pulled, what two have that give each other what they push. No condition but those that are stated. -/
import Derived.Test.YtgfmmipbadnhgaaRec
namespace Go.Proofs.Ytgfmmipbadnhgaa
set_option linter.unusedVariables false
set_option linter.unusedSimpArgs false

structure Sn where
  key : ByteArray
  s : Stp
  kind : Int
def seen (r : R) : Sn := ⟨r.key, r.s, r.kind⟩
/- It is behind: its stamp stands ahead, or is the same and its kind is less. -/
def Bh (a b : Sn) : Prop := Lt a.s b.s ∨ (a.s = b.s ∧ a.kind < b.kind)
def bh (a b : Sn) : Bool := lt a.s b.s || (same a.s b.s && decide (a.kind < b.kind))
theorem bh_iff (a b : Sn) : bh a b = true ↔ Bh a b := by
  unfold bh Bh
  rw [Bool.or_eq_true, Bool.and_eq_true, lt_iff, same_iff, decide_eq_true_eq]
theorem bh_false (a b : Sn) : bh a b = false ↔ ¬ Bh a b := by rw [← bh_iff]; simp
theorem bh_irrefl (a : Sn) : ¬ Bh a a := by
  rintro (h | ⟨_, h⟩)
  · exact lt_irrefl _ h
  · omega
theorem bh_asymm {a b : Sn} (h : Bh a b) : ¬ Bh b a := by
  rintro (k | ⟨k1, k2⟩) <;> rcases h with h | ⟨h1, h2⟩
  · exact lt_asymm h k
  · rw [h1] at k; exact lt_irrefl _ k
  · rw [k1] at h; exact lt_irrefl _ h
  · omega
theorem bh_trans {a b c : Sn} (h : Bh a b) (k : Bh b c) : Bh a c := by
  rcases h with h | ⟨h1, h2⟩ <;> rcases k with k | ⟨k1, k2⟩
  · exact .inl (lt_trans h k)
  · exact .inl (by rw [← k1]; exact h)
  · exact .inl (by rw [h1]; exact k)
  · exact .inr ⟨h1.trans k1, by omega⟩
/- As late as each other. -/
def Eqs (a b : Sn) : Prop := a.s = b.s ∧ a.kind = b.kind
theorem bh_total {a b : Sn} (h : ¬ Bh a b) (k : ¬ Bh b a) : Eqs a b := by
  have e : a.s = b.s := lt_total (fun g => h (.inl g)) (fun g => k (.inl g))
  have h1 : ¬ a.kind < b.kind := fun g => h (.inr ⟨e, g⟩)
  have h2 : ¬ b.kind < a.kind := fun g => k (.inr ⟨e.symm, g⟩)
  exact ⟨e, by omega⟩
theorem eqs_not {a b : Sn} (h : Eqs a b) : ¬ Bh a b := by
  rintro (k | ⟨_, k⟩)
  · rw [h.1] at k; exact lt_irrefl _ k
  · have := h.2; omega
theorem not_trans {a b c : Sn} (h : ¬ Bh a b) (k : ¬ Bh b c) : ¬ Bh a c := by
  intro g
  by_cases e : Bh b a
  · exact k (bh_trans e g)
  · have := bh_total h e
    exact k (by
      rcases g with g | ⟨g1, g2⟩
      · exact .inl (by rw [← this.1]; exact g)
      · exact .inr ⟨by rw [← this.1]; exact g1, by rw [← this.2]; exact g2⟩)
/- Keys. -/
def keq (a b : ByteArray) : Bool := decide (a.data = b.data)
theorem keq_iff (a b : ByteArray) : keq a b = true ↔ a = b := by
  unfold keq
  rw [decide_eq_true_eq]
  constructor
  · intro e; cases a; cases b; simpa using e
  · rintro rfl; rfl
theorem keq_false (a b : ByteArray) : keq a b = false ↔ a ≠ b := by rw [ne_eq, ← keq_iff]; simp
/- Does a list have as much of a key? -/
def cov (l : List Sn) (x : Sn) : Bool := l.any (fun y => keq y.key x.key && !bh y x)
theorem cov_iff (l : List Sn) (x : Sn) : cov l x = true ↔ ∃ y ∈ l, y.key = x.key ∧ ¬ Bh y x := by
  unfold cov
  rw [List.any_eq_true]
  simp only [Bool.and_eq_true, keq_iff, Bool.not_eq_true', bh_false]
theorem cov_false (l : List Sn) (x : Sn) : cov l x = false ↔ ∀ y ∈ l, y.key = x.key → Bh y x := by
  constructor
  · intro h y hy e
    refine Classical.byContradiction fun g => ?_
    rw [(cov_iff l x).2 ⟨y, hy, e, g⟩] at h
    cases h
  · intro h
    cases e : cov l x with
    | false => rfl
    | true =>
      obtain ⟨y, hy, e1, e2⟩ := (cov_iff l x).1 e
      exact absurd (h y hy e1) e2
def sums (l : List R) : List Sn := l.map seen
theorem mem_sums {l : List R} {y : Sn} : y ∈ sums l ↔ ∃ r ∈ l, seen r = y := List.mem_map
def push (mine : List R) (theirs : List Sn) : List R := mine.filter (fun r => !cov theirs (seen r))
theorem mem_push {mine : List R} {theirs : List Sn} {r : R} : r ∈ push mine theirs ↔ r ∈ mine ∧ cov theirs (seen r) = false := by
  unfold push
  rw [List.mem_filter]
  simp
/- Keys that aren't covered. -/
def Open (mine : List R) (theirs : List Sn) (q : ByteArray) : Prop := ∃ t ∈ theirs, t.key = q ∧ cov (sums mine) t = false
/- Rising, each once. -/
def Kup (l : List ByteArray) : Prop := l.Pairwise (fun a b => cmpB a b < 0)
/- What Pull tells: these keys, rising. -/
def PullIs (mine : List R) (theirs : List Sn) (l : List ByteArray) : Prop := Kup l ∧ ∀ q, q ∈ l ↔ Open mine theirs q
theorem pw_more {α : Type} {R S : α → α → Prop} (h : ∀ a b, R a b → S a b) : ∀ {l : List α}, l.Pairwise R → l.Pairwise S
  | [], _ => List.Pairwise.nil
  | x :: l, p => by
    obtain ⟨h1, h2⟩ := List.pairwise_cons.1 p
    exact List.pairwise_cons.2 ⟨fun y hy => h _ _ (h1 y hy), pw_more h h2⟩
theorem kup_nodup {l : List ByteArray} (h : Kup l) : l.Nodup := by
  unfold Kup at h
  unfold List.Nodup
  refine pw_more ?_ h
  intro a b hab e
  subst e
  have : cmpB a a = 0 := by
    unfold cmpB
    exact (good_bytes.one a a).elim (fun h => by have := good_bytes.neg a a; unfold cmpB at *; omega) (fun h => h.elim (fun h => h) (fun h => by have := good_bytes.neg a a; unfold cmpB at *; omega))
  omega
theorem kup_uniq : ∀ {l m : List ByteArray}, Kup l → Kup m → (∀ q, q ∈ l ↔ q ∈ m) → l = m
  | [], [], _, _, _ => rfl
  | [], x :: m, _, _, h => absurd ((h x).2 (by simp)) (by simp)
  | x :: l, [], _, _, h => absurd ((h x).1 (by simp)) (by simp)
  | x :: l, y :: m, hl, hm, h => by
    obtain ⟨l1, l2⟩ := List.pairwise_cons.1 hl
    obtain ⟨m1, m2⟩ := List.pairwise_cons.1 hm
    have e : x = y := by
      rcases List.mem_cons.1 ((h x).1 (by simp)) with e | e
      · exact e
      · rcases List.mem_cons.1 ((h y).2 (by simp)) with e2 | e2
        · exact e2.symm
        · have h1 := m1 x e
          have h2 := l1 y e2
          have := good_bytes.neg x y
          omega
    subst e
    have nx : x ∉ l := fun g => by have := l1 x g; have := good_bytes.neg x x; omega
    have ny : x ∉ m := fun g => by have := m1 x g; have := good_bytes.neg x x; omega
    congr 1
    refine kup_uniq l2 m2 (fun q => ⟨fun g => ?_, fun g => ?_⟩)
    · rcases List.mem_cons.1 ((h q).1 (List.mem_cons_of_mem _ g)) with e | e
      · subst e; exact absurd g nx
      · exact e
    · rcases List.mem_cons.1 ((h q).2 (List.mem_cons_of_mem _ g)) with e | e
      · subst e; exact absurd g ny
      · exact e
theorem pull_uniq {mine : List R} {theirs : List Sn} {l m : List ByteArray} (h : PullIs mine theirs l) (k : PullIs mine theirs m) : l = m := kup_uniq h.1 k.1 (fun q => (h.2 q).trans (k.2 q).symm)
/- Unlike keys. -/
def Unlike (l : List R) : Prop := (l.map R.key).Nodup
theorem unlike_one {l : List R} (h : Unlike l) {a b : R} (ha : a ∈ l) (hb : b ∈ l) (e : a.key = b.key) : a = b := by
  induction l with
  | nil => cases ha
  | cons x l ih =>
    unfold Unlike at h ih
    rw [List.map_cons, List.nodup_cons] at h
    rcases List.mem_cons.1 ha with e1 | ha' <;> rcases List.mem_cons.1 hb with e2 | hb'
    · rw [e1, e2]
    · exact absurd (List.mem_map.2 ⟨b, hb', by rw [← e, e1]⟩) h.1
    · exact absurd (List.mem_map.2 ⟨a, ha', by rw [e, e2]⟩) h.1
    · exact ih h.2 ha' hb'
/- Nothing new. -/
theorem self_cov {l : List R} {r : R} (h : r ∈ l) : cov (sums l) (seen r) = true := (cov_iff _ _).2 ⟨seen r, mem_sums.2 ⟨r, h, rfl⟩, rfl, bh_irrefl _⟩
theorem push_self (l : List R) : push l (sums l) = [] := by
  unfold push
  rw [List.filter_eq_nil_iff]
  intro r hr
  rw [self_cov hr]
  simp
theorem pull_self {l : List R} {m : List ByteArray} (h : PullIs l (sums l) m) : m = [] := by
  refine List.eq_nil_iff_forall_not_mem.2 (fun q hq => ?_)
  obtain ⟨t, ht, _, hc⟩ := (h.2 q).1 hq
  obtain ⟨r, hr, rfl⟩ := mem_sums.1 ht
  rw [self_cov hr] at hc
  cases hc
/- What one pulls the other one would push. -/
theorem meets_mem {a b : List R} {m : List ByteArray} (h : PullIs a (sums b) m) (q : ByteArray) : q ∈ m ↔ ∃ r ∈ push b (sums a), r.key = q := by
  rw [h.2 q]
  constructor
  · rintro ⟨t, ht, e, hc⟩
    obtain ⟨r, hr, rfl⟩ := mem_sums.1 ht
    exact ⟨r, mem_push.2 ⟨hr, hc⟩, e⟩
  · rintro ⟨r, hr, e⟩
    obtain ⟨h1, h2⟩ := mem_push.1 hr
    exact ⟨seen r, mem_sums.2 ⟨r, h1, rfl⟩, e, h2⟩
theorem nodup_len {l m : List ByteArray} (hl : l.Nodup) (hm : m.Nodup) (h : ∀ q, q ∈ l ↔ q ∈ m) : l.length = m.length := ((List.perm_ext_iff_of_nodup hl hm).2 h).length_eq
theorem push_unlike {b : List R} (hb : Unlike b) (t : List Sn) : Unlike (push b t) := by
  unfold Unlike push at *
  exact hb.sublist (List.Sublist.map _ List.filter_sublist)
theorem meets_len {a b : List R} (hb : Unlike b) {m : List ByteArray} (h : PullIs a (sums b) m) : m.length = (push b (sums a)).length := by
  have := nodup_len (kup_nodup h.1) (push_unlike hb (sums a)) (fun q => by rw [meets_mem h q, List.mem_map])
  rw [this, List.length_map]
/- What a node has that is given what is pushed: the last one of its key, else its own; then those that it hasn't. -/
def lastOf (r : R) : List R → R
  | [] => r
  | p :: l => lastOf (if keq p.key r.key then p else r) l
theorem last_key (r : R) : ∀ l, (lastOf r l).key = r.key
  | [] => rfl
  | p :: l => by
    unfold lastOf
    rw [last_key]
    split
    · rename_i h; exact (keq_iff _ _).1 h
    · rfl
def give (mine pushed : List R) : List R := mine.map (fun r => lastOf r pushed) ++ pushed.filter (fun p => !mine.any (fun r => keq r.key p.key))
theorem last_none (r : R) : ∀ l : List R, (∀ p ∈ l, p.key ≠ r.key) → lastOf r l = r
  | [], _ => rfl
  | p :: l, h => by
    unfold lastOf
    rw [if_neg (by rw [keq_iff]; exact h p (by simp))]
    exact last_none r l (fun q hq => h q (by simp [hq]))
theorem last_some {l : List R} (hl : Unlike l) {p : R} (hp : p ∈ l) : ∀ (r : R), p.key = r.key → lastOf r l = p := by
  induction l with
  | nil => cases hp
  | cons x l ih =>
    intro r e
    unfold Unlike at hl ih
    rw [List.map_cons, List.nodup_cons] at hl
    unfold lastOf
    rcases List.mem_cons.1 hp with rfl | hp
    · rw [if_pos ((keq_iff _ _).2 e)]
      exact last_none _ l (fun q hq e2 => hl.1 (List.mem_map.2 ⟨q, hq, e2⟩))
    · have hx : x.key ≠ r.key := fun e2 => hl.1 (List.mem_map.2 ⟨p, hp, e.trans e2.symm⟩)
      rw [if_neg (by rw [keq_iff]; exact hx)]
      exact ih hl.2 hp r e
theorem give_keys (mine pushed : List R) : (give mine pushed).map R.key = mine.map R.key ++ (pushed.map R.key).filter (fun q => !mine.any (fun r => keq r.key q)) := by
  unfold give
  rw [List.map_append, List.map_map, List.filter_map]
  congr 1
  exact List.map_congr_left (fun r _ => last_key r pushed)
theorem any_key {mine : List R} {q : ByteArray} : mine.any (fun r => keq r.key q) = true ↔ q ∈ mine.map R.key := by
  rw [List.any_eq_true, List.mem_map]
  exact ⟨fun ⟨r, h1, h2⟩ => ⟨r, h1, (keq_iff _ _).1 h2⟩, fun ⟨r, h1, h2⟩ => ⟨r, h1, (keq_iff _ _).2 h2⟩⟩
/- Of each key: what the one has behind it, as late as the other one. -/
theorem give_has {a b : List R} (ha : Unlike a) (hb : Unlike b) {r : R} (h : r ∈ give a (push b (sums a))) :
    (r ∈ a ∧ (∀ p ∈ b, p.key = r.key → ¬ Bh (seen r) (seen p))) ∨ (r ∈ b ∧ ∀ p ∈ a, p.key = r.key → Bh (seen p) (seen r)) := by
  unfold give at h
  rcases List.mem_append.1 h with h | h
  · obtain ⟨x, hx, rfl⟩ := List.mem_map.1 h
    by_cases e : ∃ p ∈ push b (sums a), p.key = x.key
    · obtain ⟨p, hp, e⟩ := e
      rw [last_some (push_unlike hb _) hp x e]
      obtain ⟨h1, h2⟩ := mem_push.1 hp
      exact .inr ⟨h1, fun q hq eq => (cov_false _ _).1 h2 (seen q) (mem_sums.2 ⟨q, hq, rfl⟩) eq⟩
    · rw [last_none x _ (fun p hp e2 => e ⟨p, hp, e2⟩)]
      refine .inl ⟨hx, fun p hp ep hbh => e ⟨p, mem_push.2 ⟨hp, (cov_false _ _).2 (fun y hy ey => ?_)⟩, ep⟩⟩
      obtain ⟨z, hz, rfl⟩ := mem_sums.1 hy
      have : z = x := unlike_one ha hz hx (by have : z.key = p.key := ey; rw [this, ep])
      rw [this]
      exact hbh
  · obtain ⟨h1, h2⟩ := List.mem_filter.1 h
    obtain ⟨h3, h4⟩ := mem_push.1 h1
    exact .inr ⟨h3, fun q hq eq => (cov_false _ _).1 h4 (seen q) (mem_sums.2 ⟨q, hq, rfl⟩) eq⟩
theorem give_mem {a b : List R} {q : ByteArray} : q ∈ (give a (push b (sums a))).map R.key ↔ q ∈ a.map R.key ∨ q ∈ b.map R.key := by
  rw [give_keys, List.mem_append, List.mem_filter]
  constructor
  · rintro (h | ⟨h, _⟩)
    · exact .inl h
    · obtain ⟨r, hr, e⟩ := List.mem_map.1 h
      exact .inr (List.mem_map.2 ⟨r, (mem_push.1 hr).1, e⟩)
  · rintro (h | h)
    · exact .inl h
    · by_cases e : q ∈ a.map R.key
      · exact .inl e
      · obtain ⟨r, hr, rfl⟩ := List.mem_map.1 h
        refine .inr ⟨List.mem_map.2 ⟨r, mem_push.2 ⟨hr, (cov_false _ _).2 (fun y hy ey => ?_)⟩, rfl⟩, ?_⟩
        · obtain ⟨z, hz, rfl⟩ := mem_sums.1 hy
          exact absurd (List.mem_map.2 ⟨z, hz, ey⟩) e
        · cases g : a.any (fun r' => keq r'.key r.key) with
          | false => rfl
          | true => exact absurd (any_key.1 g) e
theorem give_unlike {a b : List R} (ha : Unlike a) (hb : Unlike b) : Unlike (give a (push b (sums a))) := by
  unfold Unlike
  rw [give_keys]
  refine List.nodup_append.2 ⟨ha, (push_unlike hb _).sublist List.filter_sublist, fun x hx y hy e => ?_⟩
  subst e
  obtain ⟨_, h2⟩ := List.mem_filter.1 hy
  rw [any_key.2 hx] at h2
  cases h2
theorem both_len {a b : List R} (ha : Unlike a) (hb : Unlike b) : (give a (push b (sums a))).length = (give b (push a (sums b))).length := by
  have := nodup_len (give_unlike ha hb) (give_unlike hb ha) (fun q => by rw [give_mem, give_mem, or_comm])
  simpa using this
/- Both have the same stamps and kinds of all keys. -/
theorem both_same {a b : List R} (ha : Unlike a) (hb : Unlike b) {r : R} (h : r ∈ give a (push b (sums a))) : ∃ q ∈ give b (push a (sums b)), q.key = r.key ∧ Eqs (seen q) (seen r) := by
  have hk : r.key ∈ (give b (push a (sums b))).map R.key := by
    rw [give_mem, or_comm, ← give_mem]
    exact List.mem_map.2 ⟨r, h, rfl⟩
  obtain ⟨q, hq, e⟩ := List.mem_map.1 hk
  refine ⟨q, hq, e, ?_⟩
  rcases give_has ha hb h with ⟨r1, r2⟩ | ⟨r1, r2⟩ <;> rcases give_has hb ha hq with ⟨q1, q2⟩ | ⟨q1, q2⟩
  · exact bh_total (q2 r r1 e.symm) (r2 q q1 e)
  · have := unlike_one ha q1 r1 e
    rw [this]; exact ⟨rfl, rfl⟩
  · have := unlike_one hb q1 r1 e
    rw [this]; exact ⟨rfl, rfl⟩
  · exact absurd (q2 r r1 e.symm) (bh_asymm (r2 q q1 e))
theorem both_cov {a b : List R} (ha : Unlike a) (hb : Unlike b) {r : R} (h : r ∈ give a (push b (sums a))) : cov (sums (give b (push a (sums b)))) (seen r) = true := by
  obtain ⟨q, hq, e1, e2⟩ := both_same ha hb h
  exact (cov_iff _ (seen r)).2 ⟨seen q, mem_sums.2 ⟨q, hq, rfl⟩, e1, eqs_not e2⟩
theorem both_push {a b : List R} (ha : Unlike a) (hb : Unlike b) : push (give a (push b (sums a))) (sums (give b (push a (sums b)))) = [] := by
  refine List.eq_nil_iff_forall_not_mem.2 (fun r hr => ?_)
  obtain ⟨h1, h2⟩ := mem_push.1 hr
  rw [both_cov ha hb h1] at h2
  cases h2
theorem both_pull {a b : List R} (ha : Unlike a) (hb : Unlike b) {m : List ByteArray} (h : PullIs (give a (push b (sums a))) (sums (give b (push a (sums b)))) m) : m = [] := by
  refine List.eq_nil_iff_forall_not_mem.2 (fun k hk => ?_)
  obtain ⟨t, ht, _, hc⟩ := (h.2 k).1 hk
  obtain ⟨r, hr, rfl⟩ := mem_sums.1 ht
  rw [both_cov hb ha hr] at hc
  cases hc
/- A key put among rising ones, as the reference does it. -/
def insK (k : ByteArray) : List ByteArray → List ByteArray
  | [] => [k]
  | x :: l => if cmpB x k < 0 then x :: insK k l else if keq x k then x :: l else k :: x :: l
theorem mem_insK (k q : ByteArray) : ∀ l, q ∈ insK k l ↔ q = k ∨ q ∈ l
  | [] => by simp [insK]
  | x :: l => by
    unfold insK
    split
    · rw [List.mem_cons, mem_insK k q l, List.mem_cons]
      constructor
      · rintro (h | h | h)
        · exact .inr (.inl h)
        · exact .inl h
        · exact .inr (.inr h)
      · rintro (h | h | h)
        · exact .inr (.inl h)
        · exact .inl h
        · exact .inr (.inr h)
    · split
      · rename_i h
        have e := (keq_iff _ _).1 h
        rw [List.mem_cons]
        constructor
        · exact fun h => .inr h
        · rintro (h | h)
          · exact .inl (h.trans e.symm)
          · exact h
      · rw [List.mem_cons]
theorem kup_insK (k : ByteArray) : ∀ l, Kup l → Kup (insK k l)
  | [], _ => by unfold insK Kup; simp
  | x :: l, h => by
    obtain ⟨h1, h2⟩ := List.pairwise_cons.1 h
    unfold insK
    split
    · rename_i hx
      refine List.pairwise_cons.2 ⟨fun y hy => ?_, kup_insK k l h2⟩
      rcases (mem_insK k y l).1 hy with rfl | hy
      · exact hx
      · exact h1 y hy
    · rename_i hx
      split
      · exact h
      · rename_i hk
        have hne : x ≠ k := fun e => hk ((keq_iff _ _).2 e)
        have hkx : cmpB k x < 0 := by
          have h3 := good_bytes.neg k x
          have h4 : cmpB x k ≠ 0 := fun e => hne ((cmpB_zero x k).1 e)
          omega
        refine List.pairwise_cons.2 ⟨fun y hy => ?_, h⟩
        rcases List.mem_cons.1 hy with rfl | hy
        · exact hkx
        · exact ((good_bytes.tr k x y (by omega) (by have := h1 y hy; omega)).2).2 (.inl hkx)
def pullR (mine : List R) : List ByteArray → List Sn → List ByteArray
  | out, [] => out
  | out, t :: l => pullR mine (if cov (sums mine) t then out else insK t.key out) l
theorem pullR_on (mine : List R) : ∀ (l : List Sn) (out : List ByteArray), Kup out → Kup (pullR mine out l) ∧ ∀ q, q ∈ pullR mine out l ↔ q ∈ out ∨ Open mine l q
  | [], out, h => ⟨h, fun q => by unfold pullR Open; simp⟩
  | t :: l, out, h => by
    unfold pullR
    cases c : cov (sums mine) t with
    | true =>
      obtain ⟨h1, h2⟩ := pullR_on mine l out h
      refine ⟨h1, fun q => ?_⟩
      rw [if_pos rfl, h2 q]
      constructor
      · rintro (g | ⟨x, hx, e, hc⟩)
        · exact .inl g
        · exact .inr ⟨x, List.mem_cons_of_mem _ hx, e, hc⟩
      · rintro (g | ⟨x, hx, e, hc⟩)
        · exact .inl g
        · rcases List.mem_cons.1 hx with rfl | hx
          · rw [c] at hc; cases hc
          · exact .inr ⟨x, hx, e, hc⟩
    | false =>
      obtain ⟨h1, h2⟩ := pullR_on mine l (insK t.key out) (kup_insK _ _ h)
      refine ⟨h1, fun q => ?_⟩
      rw [if_neg (by simp), h2 q, mem_insK]
      constructor
      · rintro ((g | g) | ⟨x, hx, e, hc⟩)
        · exact .inr ⟨t, by simp, g.symm, c⟩
        · exact .inl g
        · exact .inr ⟨x, List.mem_cons_of_mem _ hx, e, hc⟩
      · rintro (g | ⟨x, hx, e, hc⟩)
        · exact .inl (.inr g)
        · rcases List.mem_cons.1 hx with rfl | hx
          · exact .inl (.inl e.symm)
          · exact .inr ⟨x, hx, e, hc⟩
theorem pullR_is (mine : List R) (theirs : List Sn) : PullIs mine theirs (pullR mine [] theirs) := by
  obtain ⟨h1, h2⟩ := pullR_on mine theirs [] List.Pairwise.nil
  exact ⟨h1, fun q => by rw [h2 q]; simp⟩
/- Of several seen ones of a key the one that counts: the last of those that aren't behind the one that counted. -/
def bestOf (q : ByteArray) : Option Sn → List Sn → Option Sn
  | o, [] => o
  | o, t :: l => bestOf q (if keq t.key q then (match o with | none => some t | some b => if bh b t then some t else some b) else o) l
theorem best_on (q : ByteArray) : ∀ (l : List Sn) (o : Option Sn), (∀ b, o = some b → b.key = q) → (∀ b, bestOf q o l = some b → b.key = q ∧ (o = some b ∨ b ∈ l) ∧ (∀ b0, o = some b0 → ¬ Bh b b0) ∧ ∀ t ∈ l, t.key = q → ¬ Bh b t) ∧ (bestOf q o l = none → o = none ∧ ∀ t ∈ l, t.key ≠ q)
  | [], o, ho => by
    unfold bestOf
    exact ⟨fun b e => ⟨ho b e, .inl e, fun b0 e0 => by rw [e] at e0; cases e0; exact bh_irrefl b, fun t ht => by cases ht⟩, fun e => ⟨e, fun t ht => by cases ht⟩⟩
  | t :: l, o, ho => by
    unfold bestOf
    by_cases hk : t.key = q
    · rw [if_pos ((keq_iff _ _).2 hk)]
      cases o with
      | none =>
        obtain ⟨g1, g2⟩ := best_on q l (some t) (fun b e => by cases e; exact hk)
        refine ⟨fun b e => ?_, fun e => absurd (g2 e).1 (by simp)⟩
        obtain ⟨k1, k2, k3, k4⟩ := g1 b e
        refine ⟨k1, .inr ?_, fun b0 e0 => (by cases e0), fun x hx ex => ?_⟩
        · rcases k2 with k2 | k2
          · cases k2; simp
          · simp [k2]
        · rcases List.mem_cons.1 hx with rfl | hx
          · exact k3 _ rfl
          · exact k4 x hx ex
      | some c =>
        by_cases hb : bh c t = true
        · have hB := (bh_iff _ _).1 hb
          simp only [hb, if_true]
          obtain ⟨g1, g2⟩ := best_on q l (some t) (fun b e => by cases e; exact hk)
          refine ⟨fun b e => ?_, fun e => absurd (g2 e).1 (by simp)⟩
          obtain ⟨k1, k2, k3, k4⟩ := g1 b e
          refine ⟨k1, .inr ?_, fun b0 e0 => ?_, fun x hx ex => ?_⟩
          · rcases k2 with k2 | k2
            · cases k2; simp
            · simp [k2]
          · cases e0
            exact not_trans (k3 t rfl) (bh_asymm hB)
          · rcases List.mem_cons.1 hx with rfl | hx
            · exact k3 _ rfl
            · exact k4 x hx ex
        · have hB : ¬ Bh c t := by rw [← bh_iff]; exact hb
          simp only [hb]
          obtain ⟨g1, g2⟩ := best_on q l (some c) ho
          refine ⟨fun b e => ?_, fun e => absurd (g2 e).1 (by simp)⟩
          obtain ⟨k1, k2, k3, k4⟩ := g1 b e
          refine ⟨k1, ?_, k3, fun x hx ex => ?_⟩
          · rcases k2 with k2 | k2
            · exact .inl k2
            · exact .inr (by simp [k2])
          · rcases List.mem_cons.1 hx with rfl | hx
            · exact not_trans (k3 c rfl) hB
            · exact k4 x hx ex
    · rw [if_neg (by rw [keq_iff]; exact hk)]
      obtain ⟨g1, g2⟩ := best_on q l o ho
      refine ⟨fun b e => ?_, fun e => ?_⟩
      · obtain ⟨k1, k2, k3, k4⟩ := g1 b e
        refine ⟨k1, ?_, k3, fun x hx ex => ?_⟩
        · rcases k2 with k2 | k2
          · exact .inl k2
          · exact .inr (by simp [k2])
        · rcases List.mem_cons.1 hx with rfl | hx
          · exact absurd ex hk
          · exact k4 x hx ex
      · obtain ⟨k1, k2⟩ := g2 e
        exact ⟨k1, fun x hx => by
          rcases List.mem_cons.1 hx with rfl | hx
          · exact hk
          · exact k2 x hx⟩
/- A list has as much of a key, if the one that counts isn't behind. -/
theorem best_cov (l : List Sn) (x : Sn) : cov l x = (match bestOf x.key none l with | none => false | some b => !bh b x) := by
  obtain ⟨g1, g2⟩ := best_on x.key l none (fun b e => by cases e)
  cases e : bestOf x.key none l with
  | none => exact (cov_false _ _).2 (fun y hy ey => absurd ey ((g2 e).2 y hy))
  | some b =>
    obtain ⟨k1, k2, k3, k4⟩ := g1 b e
    have hb : b ∈ l := by
      rcases k2 with k2 | k2
      · cases k2
      · exact k2
    show cov l x = !bh b x
    cases hbh : bh b x with
    | false => exact (cov_iff _ _).2 ⟨b, hb, k1, (bh_false _ _).1 hbh⟩
    | true =>
      refine (cov_false _ _).2 (fun y hy ey => ?_)
      refine Classical.byContradiction fun g => ?_
      exact not_trans (k4 y hy ey) g ((bh_iff _ _).1 hbh)
end Go.Proofs.Ytgfmmipbadnhgaa
