/- Plain mathematics of a table of keys in slots: from each key's home up to its slot no slot is empty; what setting and dropping leave of it. No condition but that there is an empty slot. -/
import Derived.OpenShut
namespace Go.Proofs.Ytibdnhnomjcclaa
set_option linter.unusedVariables false
set_option linter.unusedSimpArgs false

structure Sl where
  taken : Bool
  key : ByteArray
  v : Int
def no : Sl := ⟨false, ⟨#[]⟩, 0⟩
abbrev Tb := Nat → Sl
def upd (L : Tb) (i : Nat) (s : Sl) : Tb := fun j => if j = i then s else L j
theorem upd_at (L : Tb) (i : Nat) (s : Sl) : upd L i s i = s := if_pos rfl
theorem upd_ne (L : Tb) {i j : Nat} (s : Sl) (h : j ≠ i) : upd L i s j = L j := if_neg h
theorem upd_upd (L : Tb) (i : Nat) (s t : Sl) : upd (upd L i s) i t = upd L i t := by
  funext j; unfold upd; split <;> rfl
def nxt (m i : Nat) : Nat := if i + 1 = m then 0 else i + 1
def way (m a b : Nat) : Nat := if a ≤ b then b - a else b + m - a
theorem nxt_lt {m i : Nat} (h : i < m) : nxt m i < m := by unfold nxt; split <;> omega
theorem nxt_mod {m i : Nat} (h : i < m) : (i + 1) % m = nxt m i := by
  unfold nxt
  split
  · rename_i e; rw [e, Nat.mod_self]
  · exact Nat.mod_eq_of_lt (by omega)
theorem way_mod {m a b : Nat} (ha : a < m) (hb : b < m) : (b + m - a) % m = way m a b := by
  unfold way
  split
  · rw [show b + m - a = (b - a) + m by omega, Nat.add_mod_right]; exact Nat.mod_eq_of_lt (by omega)
  · exact Nat.mod_eq_of_lt (by omega)
theorem way_lt {m a b : Nat} (ha : a < m) (hb : b < m) : way m a b < m := by unfold way; split <;> omega
theorem way_self (m a : Nat) : way m a a = 0 := by unfold way; simp
theorem way_inj {m a b c : Nat} (ha : a < m) (hb : b < m) (hc : c < m) (h : way m a b = way m a c) : b = c := by unfold way at h; split at h <;> split at h <;> omega
theorem way_nxt {m a b : Nat} (ha : a < m) (hb : b < m) (h : nxt m b ≠ a) : way m a (nxt m b) = way m a b + 1 := by
  unfold way nxt at *; split at h <;> (repeat' split) <;> omega
theorem way_one {m a : Nat} (ha : a < m) (h1 : 1 < m) : way m a (nxt m a) = 1 := by
  unfold way nxt; (repeat' split) <;> omega

def cnt (L : Tb) : Nat → Nat
  | 0 => 0
  | n + 1 => cnt L n + if (L n).taken = true then 1 else 0
theorem cnt_le (L : Tb) (n : Nat) : cnt L n ≤ n := by
  induction n with
  | zero => exact Nat.le_refl _
  | succ n ih => unfold cnt; split <;> omega
theorem cnt_same {L M : Tb} {n : Nat} (h : ∀ i, i < n → (L i).taken = (M i).taken) : cnt L n = cnt M n := by
  induction n with
  | zero => rfl
  | succ n ih => unfold cnt; rw [ih (fun i hi => h i (by omega)), h n (by omega)]
theorem cnt_upd (L : Tb) {i n : Nat} (s : Sl) (h : i < n) : cnt (upd L i s) n + (if (L i).taken = true then 1 else 0) = cnt L n + (if s.taken = true then 1 else 0) := by
  induction n with
  | zero => omega
  | succ n ih =>
    unfold cnt
    by_cases hn : i = n
    · subst hn
      rw [upd_at, cnt_same (L := upd L i s) (M := L) (fun j hj => by rw [upd_ne _ _ (by omega)])]
      omega
    · have := ih (by omega)
      rw [upd_ne _ _ (show n ≠ i by omega)]
      omega
theorem cnt_free {L : Tb} {n : Nat} (h : cnt L n < n) : ∃ i, i < n ∧ (L i).taken = false := by
  induction n with
  | zero => omega
  | succ n ih =>
    by_cases e : (L n).taken = true
    · unfold cnt at h
      rw [if_pos e] at h
      obtain ⟨i, hi, h'⟩ := ih (by omega)
      exact ⟨i, by omega, h'⟩
    · exact ⟨n, by omega, by simpa using e⟩
theorem cnt_none {L : Tb} {n : Nat} (h : ∀ i, i < n → (L i).taken = false) : cnt L n = 0 := by
  induction n with
  | zero => rfl
  | succ n ih => unfold cnt; rw [ih (fun i hi => h i (by omega)), h n (by omega)]; simp
theorem cnt_zero {L : Tb} {n : Nat} (h : cnt L n = 0) : ∀ i, i < n → (L i).taken = false := by
  induction n with
  | zero => intro i hi; omega
  | succ n ih =>
    unfold cnt at h
    intro i hi
    by_cases e : (L n).taken = true
    · rw [if_pos e] at h; omega
    · rw [if_neg e] at h
      rcases (show i < n ∨ i = n by omega) with h' | rfl
      · exact ih (by omega) i h'
      · simpa using e

/- A table as it may be. -/
structure Ok (h : ByteArray → Nat) (m : Nat) (L : Tb) : Prop where
  home : ∀ k, h k < m
  clean : ∀ i, (L i).taken = false → L i = no
  out : ∀ i, m ≤ i → (L i).taken = false
  one : ∀ i j, (L i).taken = true → (L j).taken = true → (L i).key = (L j).key → i = j
  run : ∀ i, (L i).taken = true → ∀ j, j < m → way m (h (L i).key) j < way m (h (L i).key) i → (L j).taken = true
def Has (L : Tb) (k : ByteArray) (i : Nat) : Prop := (L i).taken = true ∧ (L i).key = k
structure Found (h : ByteArray → Nat) (m : Nat) (L : Tb) (k : ByteArray) (a : Nat) : Prop where
  lt : a < m
  past : ∀ j, j < m → way m (h k) j < way m (h k) a → (L j).taken = true ∧ (L j).key ≠ k
  mine : (L a).taken = true → (L a).key = k
  home : h k < m
section
variable {h : ByteArray → Nat} {m : Nat} {L : Tb} {k : ByteArray}
theorem Ok.lt (o : Ok h m L) {i : Nat} (t : (L i).taken = true) : i < m := by
  by_cases hi : i < m
  · exact hi
  · rw [o.out i (by omega)] at t; cases t
theorem Ok.pos (o : Ok h m L) : 0 < m := by have := o.home ⟨#[]⟩; omega
theorem found_one {a b : Nat} (f : Found h m L k a) (g : Found h m L k b) : a = b := by
  rcases Nat.lt_trichotomy (way m (h k) a) (way m (h k) b) with w | w | w
  · have := g.past a f.lt w; exact absurd (f.mine this.1) this.2
  · exact way_inj f.home f.lt g.lt w
  · have := f.past b g.lt w; exact absurd (g.mine this.1) this.2
theorem has_found (o : Ok h m L) {i : Nat} (t : Has L k i) : Found h m L k i := by
  obtain ⟨t1, rfl⟩ := t
  refine ⟨o.lt t1, fun j hj hw => ?_, fun _ => rfl, o.home _⟩
  have tj := o.run i t1 j hj hw
  refine ⟨tj, fun e => ?_⟩
  have := o.one j i tj t1 e
  subst this
  omega
theorem found_not (o : Ok h m L) {a : Nat} (f : Found h m L k a) (t : (L a).taken = false) (i : Nat) : ¬ Has L k i := by
  intro g
  have := found_one f (has_found o g)
  subst this
  rw [g.1] at t; cases t
theorem found_has {a : Nat} (f : Found h m L k a) (t : (L a).taken = true) : Has L k a := ⟨t, f.mine t⟩
/- Whether a slot is the one at which a key is looked for, and that slot itself. -/
def foundB (h : ByteArray → Nat) (m : Nat) (L : Tb) (k : ByteArray) (a : Nat) : Bool :=
  decide (h k < m) && (!(L a).taken || decide ((L a).key.data = k.data)) && (List.range m).all (fun j => !decide (way m (h k) j < way m (h k) a) || ((L j).taken && !decide ((L j).key.data = k.data)))
theorem data_eq {x y : ByteArray} (e : x.data = y.data) : x = y := by cases x; cases y; simpa using e
theorem foundB_is {a : Nat} (ha : a < m) : foundB h m L k a = true ↔ Found h m L k a := by
  unfold foundB
  simp only [Bool.and_eq_true, Bool.or_eq_true, Bool.not_eq_true', decide_eq_true_eq, decide_eq_false_iff_not, List.all_eq_true, List.mem_range]
  constructor
  · rintro ⟨⟨h1, h2⟩, h3⟩
    refine ⟨ha, fun j hj hw => ?_, fun t => ?_, h1⟩
    · rcases h3 j hj with g | g
      · exact absurd hw g
      · exact ⟨g.1, fun e => g.2 (by rw [e])⟩
    · rcases h2 with g | g
      · rw [g] at t; cases t
      · exact data_eq g
  · intro f
    refine ⟨⟨f.home, ?_⟩, fun j hj => ?_⟩
    · cases t : (L a).taken with
      | false => exact .inl rfl
      | true => exact .inr (by rw [f.mine t])
    · by_cases hw : way m (h k) j < way m (h k) a
      · exact .inr ⟨(f.past j hj hw).1, fun e => (f.past j hj hw).2 (data_eq e)⟩
      · exact .inl hw
def spot (h : ByteArray → Nat) (m : Nat) (L : Tb) (k : ByteArray) : Nat := ((List.range m).find? (foundB h m L k)).getD 0
theorem spot_eq {a : Nat} (f : Found h m L k a) : spot h m L k = a := by
  unfold spot
  cases e : (List.range m).find? (foundB h m L k) with
  | none =>
    have := List.find?_eq_none.1 e a (List.mem_range.2 f.lt)
    exact absurd ((foundB_is f.lt).2 f) this
  | some b =>
    have hb := List.mem_range.1 (List.mem_of_find?_eq_some e)
    exact found_one ((foundB_is hb).1 (List.find?_some e)) f
/- What looking for a key comes by. -/
def Past (h : ByteArray → Nat) (m : Nat) (L : Tb) (k : ByteArray) (a : Nat) : Prop :=
  a < m ∧ ∀ j, j < m → way m (h k) j < way m (h k) a → (L j).taken = true ∧ (L j).key ≠ k
theorem past_home (o : Ok h m L) : Past h m L k (h k) := ⟨o.home k, fun j _ hw => by rw [way_self] at hw; omega⟩
/- There is an empty slot, so looking on does not come round. -/
theorem past_next (hk : h k < m) {a : Nat} (p : Past h m L k a) (c : cnt L m < m) (t : (L a).taken = true) (e : (L a).key ≠ k) :
    Past h m L k (nxt m a) ∧ way m (h k) (nxt m a) = way m (h k) a + 1 := by
  have hn : nxt m a ≠ h k := by
    intro hn
    obtain ⟨i, hi, ti⟩ := cnt_free c
    by_cases hia : i = a
    · subst hia; rw [t] at ti; cases ti
    · have : way m (h k) i < way m (h k) a := by
        have h1 := p.1
        rw [← hn]
        unfold way nxt
        (repeat' split) <;> omega
      rw [(p.2 i hi this).1] at ti; cases ti
  have hw := way_nxt hk p.1 hn
  refine ⟨⟨nxt_lt p.1, fun j hj hj2 => ?_⟩, hw⟩
  rw [hw] at hj2
  rcases (show way m (h k) j < way m (h k) a ∨ way m (h k) j = way m (h k) a by omega) with h1 | h1
  · exact p.2 j hj h1
  · have := way_inj hk hj p.1 h1
    subst this
    exact ⟨t, e⟩
theorem past_found (hk : h k < m) {a : Nat} (p : Past h m L k a) (t : (L a).taken = true → (L a).key = k) : Found h m L k a := ⟨p.1, p.2, t, hk⟩
theorem found_any (o : Ok h m L) (c : cnt L m < m) (k : ByteArray) : ∃ a, Found h m L k a := by
  have key : ∀ f a, Past h m L k a → m - way m (h k) a ≤ f → ∃ a, Found h m L k a := by
    intro f
    induction f with
    | zero => intro a p hf; have := way_lt (o.home k) p.1; omega
    | succ f ih =>
      intro a p hf
      by_cases t : (L a).taken = true ∧ (L a).key ≠ k
      · obtain ⟨p2, hw⟩ := past_next (o.home k) p c t.1 t.2
        exact ih _ p2 (by have := way_lt (o.home k) p2.1; omega)
      · exact ⟨a, past_found (o.home k) p (fun t1 => Classical.byContradiction fun e => t ⟨t1, e⟩)⟩
  exact key m _ (past_home o) (by omega)
theorem spot_found (o : Ok h m L) (c : cnt L m < m) : Found h m L k (spot h m L k) := by
  obtain ⟨a, f⟩ := found_any o c k
  rw [spot_eq f]; exact f
theorem ok_new (hh : ∀ k, h k < m) : Ok h m (fun _ => no) :=
  ⟨hh, fun _ _ => rfl, fun _ _ => rfl, fun _ _ t _ _ => (by cases t), fun _ t => (by cases t)⟩
theorem cnt_new (n : Nat) : cnt (fun _ => no) n = 0 := cnt_none (fun _ _ => rfl)

/- Setting. -/
theorem ok_put (o : Ok h m L) {a : Nat} (f : Found h m L k a) (v : Int) : Ok h m (upd L a ⟨true, k, v⟩) := by
  have hk : ∀ j, j ≠ a → (L j).taken = true → (L j).key ≠ k := fun j hj t e => hj (found_one (has_found o ⟨t, e⟩) f)
  refine ⟨o.home, fun i t => ?_, fun i hi => ?_, fun i j ti tj e => ?_, fun i ti j hj hw => ?_⟩
  · by_cases hi : i = a
    · subst hi; rw [upd_at] at t; cases t
    · rw [upd_ne _ _ hi] at *; exact o.clean i t
  · rw [upd_ne _ _ (by have := f.lt; omega)]; exact o.out i hi
  · by_cases hi : i = a
    · by_cases hj : j = a
      · rw [hi, hj]
      · subst hi
        rw [upd_at, upd_ne _ _ hj] at e
        rw [upd_ne _ _ hj] at tj
        exact absurd e.symm (hk j hj tj)
    · by_cases hj : j = a
      · subst hj
        rw [upd_at, upd_ne _ _ hi] at e
        rw [upd_ne _ _ hi] at ti
        exact absurd e (hk i hi ti)
      · rw [upd_ne _ _ hi] at ti e
        rw [upd_ne _ _ hj] at tj e
        exact o.one i j ti tj e
  · by_cases hja : j = a
    · subst hja; rw [upd_at]
    · rw [upd_ne _ _ hja]
      by_cases hi : i = a
      · subst hi
        rw [upd_at] at hw
        exact (f.past j hj hw).1
      · rw [upd_ne _ _ hi] at ti hw
        exact o.run i ti j hj hw
theorem ent_put (o : Ok h m L) {a : Nat} (f : Found h m L k a) (v : Int) (s : Sl) (t : s.taken = true) :
    (∃ i, upd L a ⟨true, k, v⟩ i = s) ↔ s = ⟨true, k, v⟩ ∨ ((∃ i, L i = s) ∧ s.key ≠ k) := by
  constructor
  · rintro ⟨i, e⟩
    by_cases hi : i = a
    · subst hi; rw [upd_at] at e; exact .inl e.symm
    · rw [upd_ne _ _ hi] at e
      refine .inr ⟨⟨i, e⟩, fun ek => hi (found_one (has_found o ⟨by rw [e]; exact t, by rw [e]; exact ek⟩) f)⟩
  · rintro (rfl | ⟨⟨i, e⟩, hk⟩)
    · exact ⟨a, upd_at _ _ _⟩
    · refine ⟨i, ?_⟩
      by_cases hi : i = a
      · subst hi
        exact absurd (e ▸ f.mine (e ▸ t)) hk
      · rw [upd_ne _ _ hi]; exact e
def setT (h : ByteArray → Nat) (m most : Nat) (L : Tb) (k : ByteArray) (v : Int) : Nat × Tb :=
  if (L (spot h m L k)).taken = true then (0, upd L (spot h m L k) ⟨true, k, v⟩)
  else if cnt L m = most then (6, L) else (0, upd L (spot h m L k) ⟨true, k, v⟩)

/- Closing up behind a hole. -/
def cl (h : ByteArray → Nat) (m : Nat) : Nat → Tb → Nat → Nat → Tb × Nat
  | 0, L, hole, _ => (L, hole)
  | f + 1, L, hole, i =>
    if (L i).taken = true then
      if way m hole i ≤ way m (h (L i).key) i then cl h m f (upd L hole (L i)) i (nxt m i) else cl h m f L hole (nxt m i)
    else (L, hole)
structure Cl (h : ByteArray → Nat) (m : Nat) (L : Tb) (o a e : Nat) : Prop where
  ho : o < m
  ha : a < m
  he : e < m
  te : (L e).taken = false
  ne : e ≠ o
  nea : a ≠ o
  sum : way m o a + way m a e = way m o e
  clean : ∀ i, (upd L o no i).taken = false → upd L o no i = no
  out : ∀ i, m ≤ i → (upd L o no i).taken = false
  one : ∀ i j, (upd L o no i).taken = true → (upd L o no j).taken = true → (upd L o no i).key = (upd L o no j).key → i = j
  run : ∀ i, (upd L o no i).taken = true → ∀ j, j < m → way m (h (upd L o no i).key) j < way m (h (upd L o no i).key) i → (upd L o no j).taken = true ∨ (j = o ∧ way m o a ≤ way m o i)
theorem cl_free {o a e : Nat} (c : Cl h m L o a e) (t : (L a).taken = true) : a ≠ e := by
  rintro rfl; rw [c.te] at t; cases t
theorem cl_end (hh : ∀ k, h k < m) {o a e : Nat} (c : Cl h m L o a e) (t : (L a).taken = false) : Ok h m (upd L o no) := by
  refine ⟨hh, c.clean, c.out, c.one, fun i ti j hj hw => ?_⟩
  rcases c.run i ti j hj hw with g | ⟨rfl, g⟩
  · exact g
  · exfalso
    have hi : i ≠ j := by rintro rfl; rw [upd_at] at ti; cases ti
    have hia : i ≠ a := by rintro rfl; rw [upd_ne _ _ c.nea, t] at ti; cases ti
    have him : i < m := by
      by_cases hi : i < m
      · exact hi
      · rw [c.out i (by omega)] at ti; cases ti
    have hH := hh (upd L j no i).key
    generalize hHe : h (upd L j no i).key = H at *
    have ho := c.ho; have ha := c.ha; have hn := c.nea
    have : way m H a < way m H i := by
      unfold way at *
      (repeat' split) <;> (repeat' split at hw) <;> (repeat' split at g) <;> omega
    rcases c.run i ti a ha (by rw [hHe]; exact this) with g2 | ⟨g2, _⟩
    · rw [upd_ne _ _ c.nea, t] at g2; cases g2
    · exact hn g2
theorem cl_stay (hh : ∀ k, h k < m) {o a e : Nat} (c : Cl h m L o a e) (t : (L a).taken = true) (w : ¬ way m o a ≤ way m (h (L a).key) a) :
    Cl h m L o (nxt m a) e ∧ way m (nxt m a) e + 1 = way m a e := by
  have hae := cl_free c t
  have ho := c.ho; have ha := c.ha; have he := c.he; have hn := c.nea; have hs := c.sum; have hne := c.ne
  have hw1 : way m o (nxt m a) = way m o a + 1 ∧ way m (nxt m a) e + 1 = way m a e ∧ nxt m a ≠ o := by
    unfold way nxt at *
    (repeat' split at hs) <;> (repeat' split) <;> omega
  refine ⟨⟨ho, nxt_lt ha, he, c.te, hne, hw1.2.2, by omega, c.clean, c.out, c.one, fun i ti j hj hw => ?_⟩, hw1.2.1⟩
  rcases c.run i ti j hj hw with g | ⟨g1, g⟩
  · exact .inl g
  · refine .inr ⟨g1, ?_⟩
    subst g1
    have him : i < m := by
      by_cases hi : i < m
      · exact hi
      · rw [c.out i (by omega)] at ti; cases ti
    have hia : i ≠ a := by
      rintro rfl
      rw [upd_ne _ _ hn] at hw
      have hH := hh (L i).key
      generalize h (L i).key = H at *
      unfold way at w hw
      (repeat' split at w) <;> (repeat' split at hw) <;> omega
    have : way m j a ≠ way m j i := fun e => hia (way_inj ho him ha e.symm)
    omega
theorem cl_move (hh : ∀ k, h k < m) {o a e : Nat} (c : Cl h m L o a e) (t : (L a).taken = true) (w : way m o a ≤ way m (h (L a).key) a) :
    Cl h m (upd L o (L a)) a (nxt m a) e ∧ way m (nxt m a) e + 1 = way m a e := by
  have hae := cl_free c t
  have ho := c.ho; have ha := c.ha; have he := c.he; have hn := c.nea; have hs := c.sum; have hne := c.ne
  have hw1 : way m a (nxt m a) = 1 ∧ way m (nxt m a) e + 1 = way m a e ∧ nxt m a ≠ a := by
    unfold way nxt at *
    (repeat' split at hs) <;> (repeat' split) <;> omega
  have e1 : ∀ j, j ≠ a → j ≠ o → upd (upd L o (L a)) a no j = upd L o no j := fun j h1 h2 => by rw [upd_ne _ _ h1, upd_ne _ _ h2, upd_ne _ _ h2]
  have e2 : upd (upd L o (L a)) a no o = L a := by rw [upd_ne _ _ (Ne.symm hn), upd_at]
  have e3 : upd L o no a = L a := upd_ne _ _ hn
  have e4 : (upd (upd L o (L a)) a no a) = no := upd_at _ _ _
  have e5 : upd L o no o = no := upd_at _ _ _
  refine ⟨⟨ha, nxt_lt ha, he, by rw [upd_ne _ _ hne]; exact c.te, Ne.symm hae, hw1.2.2, by omega, fun i ti => ?_, fun i hi => ?_, fun i j ti tj ek => ?_, fun i ti j hj hw => ?_⟩, hw1.2.1⟩
  · by_cases h1 : i = a
    · subst h1; exact e4
    · by_cases h2 : i = o
      · subst h2; rw [e2, t] at ti; cases ti
      · rw [e1 i h1 h2] at *; exact c.clean i ti
  · rw [e1 i (by omega) (by omega)]; exact c.out i hi
  · have g1 : i ≠ a := by rintro rfl; rw [e4] at ti; cases ti
    have g2 : j ≠ a := by rintro rfl; rw [e4] at tj; cases tj
    by_cases h1 : i = o
    · by_cases h2 : j = o
      · rw [h1, h2]
      · subst h1
        rw [e1 j g2 h2] at tj ek
        rw [e2] at ek
        exact absurd (c.one a j (by rw [e3]; exact t) tj (by rw [e3]; exact ek)) (Ne.symm g2)
    · rw [e1 i g1 h1] at ti ek
      by_cases h2 : j = o
      · subst h2
        rw [e2] at ek
        exact absurd (c.one i a ti (by rw [e3]; exact t) (by rw [e3]; exact ek)) g1
      · rw [e1 j g2 h2] at tj ek
        exact c.one i j ti tj ek
  · have g1 : i ≠ a := by rintro rfl; rw [e4] at ti; cases ti
    by_cases h1 : i = o
    · subst h1
      rw [e2] at hw
      have hH := hh (L a).key
      have hw2 : way m (h (L a).key) j < way m (h (L a).key) a ∧ j ≠ i := by
        generalize h (L a).key = H at *
        unfold way at w hw ⊢
        (repeat' split at w) <;> (repeat' split at hw) <;> (repeat' split) <;> omega
      have := c.run a (by rw [e3]; exact t) j hj (by rw [e3]; exact hw2.1)
      rcases this with g | ⟨g, _⟩
      · by_cases hja : j = a
        · subst hja; omega
        · rw [e1 j hja hw2.2]; exact .inl g
      · exact absurd g hw2.2
    · rw [e1 i g1 h1] at ti hw
      have him : i < m := by
        by_cases hi : i < m
        · exact hi
        · rw [c.out i (by omega)] at ti; cases ti
      by_cases hja : j = a
      · subst hja
        refine .inr ⟨rfl, ?_⟩
        have : way m j i ≠ way m j j := fun e => g1 (way_inj ha him ha e)
        rw [way_self] at this
        omega
      · by_cases hjo : j = o
        · subst hjo; rw [e2]; exact .inl t
        · rw [e1 j hja hjo]
          rcases c.run i ti j hj hw with g | ⟨g, _⟩
          · exact .inl g
          · exact absurd g hjo
theorem cnt_move {o a : Nat} (ho : o < m) (ha : a < m) (hn : a ≠ o) : cnt (upd (upd L o (L a)) a no) m = cnt (upd L o no) m := by
  have h1 := cnt_upd (upd L o (L a)) (i := a) (n := m) no ha
  have h2 := cnt_upd L (i := o) (n := m) (L a) ho
  have h3 := cnt_upd L (i := o) (n := m) no ho
  rw [upd_ne _ _ hn] at h1
  simp only [no] at *
  omega
theorem ent_move {o a : Nat} (hn : a ≠ o) (s : Sl) (t : s.taken = true) : (∃ i, upd (upd L o (L a)) a no i = s) ↔ (∃ i, upd L o no i = s) := by
  have ns : no ≠ s := by rintro rfl; cases t
  constructor
  · rintro ⟨i, e⟩
    by_cases h1 : i = a
    · subst h1; rw [upd_at] at e; exact absurd e ns
    · rw [upd_ne _ _ h1] at e
      by_cases h2 : i = o
      · subst h2; rw [upd_at] at e; exact ⟨a, by rw [upd_ne _ _ hn]; exact e⟩
      · rw [upd_ne _ _ h2] at e; exact ⟨i, by rw [upd_ne _ _ h2]; exact e⟩
  · rintro ⟨i, e⟩
    by_cases h1 : i = o
    · subst h1; rw [upd_at] at e; exact absurd e ns
    · rw [upd_ne _ _ h1] at e
      by_cases h2 : i = a
      · subst h2; exact ⟨o, by rw [upd_ne _ _ (Ne.symm h1), upd_at]; exact e⟩
      · exact ⟨i, by rw [upd_ne _ _ h2, upd_ne _ _ h1]; exact e⟩
/- What closing up comes to, whatever its purse, if that is enough. -/
theorem cl_all (hh : ∀ k, h k < m) : ∀ (f : Nat) (L : Tb) (o a e : Nat), Cl h m L o a e → way m a e ≤ f →
    Ok h m (upd (cl h m f L o a).1 (cl h m f L o a).2 no) ∧ (cl h m f L o a).2 < m ∧
    cnt (upd (cl h m f L o a).1 (cl h m f L o a).2 no) m = cnt (upd L o no) m ∧
    ∀ s : Sl, s.taken = true → ((∃ i, upd (cl h m f L o a).1 (cl h m f L o a).2 no i = s) ↔ (∃ i, upd L o no i = s)) := by
  intro f
  induction f with
  | zero =>
    intro L o a e c hf
    have : a = e := by have := way_inj c.ha c.ha c.he (by rw [way_self]; omega); exact this
    subst this
    exact ⟨cl_end hh c c.te, c.ho, rfl, fun _ _ => Iff.rfl⟩
  | succ f ih =>
    intro L o a e c hf
    unfold cl
    by_cases t : (L a).taken = true
    · rw [if_pos t]
      by_cases w : way m o a ≤ way m (h (L a).key) a
      · rw [if_pos w]
        obtain ⟨c2, hw⟩ := cl_move hh c t w
        obtain ⟨g1, g2, g3, g4⟩ := ih _ _ _ _ c2 (by omega)
        refine ⟨g1, g2, g3.trans (cnt_move c.ho c.ha c.nea), fun s ts => (g4 s ts).trans (ent_move c.nea s ts)⟩
      · rw [if_neg w]
        obtain ⟨c2, hw⟩ := cl_stay hh c t w
        exact ih _ _ _ _ c2 (by omega)
    · rw [if_neg t]
      exact ⟨cl_end hh c (by simpa using t), c.ho, rfl, fun _ _ => Iff.rfl⟩
/- The first empty slot behind a hole. -/
theorem cl_begin (o : Ok h m L) (c : cnt L m < m) {p : Nat} (t : (L p).taken = true) : ∃ e, Cl h m L p (nxt m p) e ∧ way m (nxt m p) e ≤ m := by
  obtain ⟨e, he, te⟩ := cnt_free c
  have hp := o.lt t
  have hne : e ≠ p := by rintro rfl; rw [t] at te; cases te
  have hw1 : way m p (nxt m p) = 1 ∧ way m (nxt m p) e + 1 = way m p e ∧ nxt m p ≠ p := by
    unfold way nxt
    (repeat' split) <;> omega
  refine ⟨e, ⟨hp, nxt_lt hp, he, te, hne, hw1.2.2, by omega, fun i ti => ?_, fun i hi => ?_, fun i j ti tj ek => ?_, fun i ti j hj hw => ?_⟩, by have := way_lt hp he; omega⟩
  · by_cases h1 : i = p
    · subst h1; exact upd_at _ _ _
    · rw [upd_ne _ _ h1] at *; exact o.clean i ti
  · rw [upd_ne _ _ (by omega)]; exact o.out i hi
  · have g1 : i ≠ p := by rintro rfl; rw [upd_at] at ti; cases ti
    have g2 : j ≠ p := by rintro rfl; rw [upd_at] at tj; cases tj
    rw [upd_ne _ _ g1] at ti ek
    rw [upd_ne _ _ g2] at tj ek
    exact o.one i j ti tj ek
  · have g1 : i ≠ p := by rintro rfl; rw [upd_at] at ti; cases ti
    rw [upd_ne _ _ g1] at ti hw
    by_cases h1 : j = p
    · subst h1
      refine .inr ⟨rfl, ?_⟩
      have : way m j i ≠ way m j j := fun e => g1 (way_inj hp (o.lt ti) hp e)
      rw [way_self] at this
      omega
    · rw [upd_ne _ _ h1]; exact .inl (o.run i ti j hj hw)
def closed (h : ByteArray → Nat) (m : Nat) (L : Tb) (p : Nat) : Tb := upd (cl h m m L p (nxt m p)).1 (cl h m m L p (nxt m p)).2 no
theorem closed_all (o : Ok h m L) (c : cnt L m < m) {p : Nat} (t : (L p).taken = true) :
    Ok h m (closed h m L p) ∧ cnt (closed h m L p) m + 1 = cnt L m ∧
    ∀ s : Sl, s.taken = true → ((∃ i, closed h m L p i = s) ↔ (∃ i, L i = s) ∧ s.key ≠ (L p).key) := by
  obtain ⟨e, ce, he⟩ := cl_begin o c t
  obtain ⟨g1, g2, g3, g4⟩ := cl_all o.home m L p (nxt m p) e ce he
  refine ⟨g1, ?_, fun s ts => (g4 s ts).trans ?_⟩
  · have := cnt_upd L (i := p) (n := m) no (o.lt t)
    rw [if_pos t] at this
    unfold closed
    rw [g3]
    simp only [no] at *
    simpa using this
  · constructor
    · rintro ⟨i, ei⟩
      by_cases h1 : i = p
      · subst h1; rw [upd_at] at ei; subst ei; cases ts
      · rw [upd_ne _ _ h1] at ei
        exact ⟨⟨i, ei⟩, fun ek => h1 (o.one i p (by rw [ei]; exact ts) t (by rw [ei]; exact ek))⟩
    · rintro ⟨⟨i, ei⟩, hk⟩
      refine ⟨i, ?_⟩
      by_cases h1 : i = p
      · subst h1; rw [ei] at hk; exact absurd rfl hk
      · rw [upd_ne _ _ h1]; exact ei
def dropT (h : ByteArray → Nat) (m : Nat) (L : Tb) (k : ByteArray) : Bool × Tb :=
  if (L (spot h m L k)).taken = true then (true, closed h m L (spot h m L k)) else (false, L)
end
end Go.Proofs.Ytibdnhnomjcclaa
