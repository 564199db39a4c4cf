/- The plain mathematics of what clients are answered: numbers in digits, items, and how they are read. No condition but those that are stated. -/
import Derived.Test.YtlbpmehlfihpbaaDoorKeys
import Derived.Lib.ItoaNum
import Derived.Lib.ParseIntB
import Derived.Lib.SplitLaws
namespace Go.Proofs.YtlbpmehlfihpbaaDoor
set_option linter.unusedVariables false
set_option linter.unusedSimpArgs false

/- Numbers in digits. -/
def dec (n : Nat) : List UInt8 := Lib.decDigits n
def digit (c : UInt8) : Bool := decide (48 ≤ c.toNat) && decide (c.toNat ≤ 57)
def valF (a : Nat) (l : List UInt8) : Nat := l.foldl (fun n c => n * 10 + (c.toNat - 48)) a
def val (l : List UInt8) : Nat := valF 0 l
theorem digit_facts {c : UInt8} (h : digit c = true) : 48 ≤ c.toNat ∧ c.toNat ≤ 57 := by unfold digit at h; simpa using h
theorem digit_is {c : UInt8} (h : 48 ≤ c.toNat) (k : c.toNat ≤ 57) : digit c = true := by unfold digit; simp [h, k]
theorem byte_of (d : Nat) (h : d < 10) : (UInt8.ofNat (48 + d)).toNat = 48 + d := by
  show (48 + d) % 256 = 48 + d
  omega
theorem of_byte {c : UInt8} (h : digit c = true) : UInt8.ofNat (48 + (c.toNat - 48)) = c := by
  have := digit_facts h
  rw [show 48 + (c.toNat - 48) = c.toNat by omega]
  exact UInt8.ofNat_toNat
theorem head_append {a : List UInt8} (h : a ≠ []) (b : List UInt8) : (a ++ b).head? = a.head? := by
  cases a with
  | nil => exact absurd rfl h
  | cons x a => rfl
theorem dec_low {n : Nat} (h : n < 10) : dec n = [UInt8.ofNat (48 + n)] := Lib.decDigits_one h
theorem dec_more {n : Nat} (h : ¬ n < 10) : dec n = dec (n / 10) ++ [UInt8.ofNat (48 + n % 10)] := by
  unfold dec; rw [Lib.decDigits, dif_neg h]
theorem dec_ne (n : Nat) : dec n ≠ [] := by
  by_cases h : n < 10
  · rw [dec_low h]; simp
  · rw [dec_more h]; simp
theorem dec_digit (n : Nat) : ∀ c ∈ dec n, digit c = true := by
  induction n using Nat.strongRecOn with
  | _ n ih =>
    intro c hc
    by_cases h : n < 10
    · rw [dec_low h] at hc
      simp only [List.mem_cons, List.not_mem_nil, or_false] at hc
      subst hc
      exact digit_is (by rw [byte_of _ h]; omega) (by rw [byte_of _ h]; omega)
    · rw [dec_more h, List.mem_append] at hc
      rcases hc with hc | hc
      · exact ih (n / 10) (by omega) c hc
      · simp only [List.mem_cons, List.not_mem_nil, or_false] at hc
        subst hc
        have := byte_of (n % 10) (by omega)
        exact digit_is (by omega) (by omega)
theorem valF_snoc (a : Nat) (l : List UInt8) (c : UInt8) : valF a (l ++ [c]) = valF a l * 10 + (c.toNat - 48) := by simp [valF]
theorem val_dec (n : Nat) : val (dec n) = n := by
  induction n using Nat.strongRecOn with
  | _ n ih =>
    by_cases h : n < 10
    · rw [dec_low h]
      show 0 * 10 + ((UInt8.ofNat (48 + n)).toNat - 48) = n
      rw [byte_of _ h]; omega
    · rw [dec_more h]
      unfold val at *
      rw [valF_snoc, ih (n / 10) (by omega), byte_of _ (by omega)]
      omega
theorem dec_inj {m n : Nat} (h : dec m = dec n) : m = n := by rw [← val_dec m, h, val_dec]
theorem dec_len : ∀ (k n : Nat), 1 ≤ k → n < 10 ^ k → (dec n).length ≤ k
  | 1, n, _, h => by rw [dec_low (by simpa using h)]; simp
  | k + 2, n, _, h => by
    by_cases h1 : n < 10
    · rw [dec_low h1]; simp
    · rw [dec_more h1, List.length_append]
      have := dec_len (k + 1) (n / 10) (by omega) (by rw [Nat.pow_succ] at h; omega)
      simp; omega
theorem dec_pos (n : Nat) : 1 ≤ (dec n).length := by
  have := dec_ne n
  cases h : dec n with
  | nil => exact absurd h this
  | cons a l => simp
theorem valF_ge : ∀ (l : List UInt8) (a : Nat), a ≤ valF a l
  | [], a => Nat.le_refl _
  | c :: l, a => by
    have := valF_ge l (a * 10 + (c.toNat - 48))
    show a ≤ valF (a * 10 + (c.toNat - 48)) l
    omega
theorem val_pos {l : List UInt8} {c : UInt8} (hc : digit c = true) (h : c ≠ 48) : 1 ≤ val (c :: l) := by
  have h1 := valF_ge l (0 * 10 + (c.toNat - 48))
  have h2 := digit_facts hc
  have h3 : c.toNat ≠ 48 := fun e => h (UInt8.toNat_inj.1 e)
  show 1 ≤ valF (0 * 10 + (c.toNat - 48)) l
  omega
/- Digits without noughts ahead of others are what is said of their number. -/
theorem dec_val : ∀ (k : Nat) (l : List UInt8), l.length = k + 1 → (∀ c ∈ l, digit c = true) → (1 < l.length → l.head? ≠ some 48) → dec (val l) = l
  | 0, l, hl, hd, _ => by
    match l, hl with
    | [c], _ =>
      have hc := hd c (by simp)
      have := digit_facts hc
      have e : val [c] = c.toNat - 48 := by simp [val, valF]
      rw [e, dec_low (by omega), of_byte hc]
  | k + 1, l, hl, hd, hz => by
    obtain ⟨a, c, rfl⟩ : ∃ a c, l = a ++ [c] := ⟨l.dropLast, l.getLast (by intro h; simp [h] at hl), (List.dropLast_concat_getLast _).symm⟩
    have hla : a.length = k + 1 := by simpa using hl
    have ih := dec_val k a hla (fun x hx => hd x (by simp [hx])) (fun h1 => by
      have := hz (by simp; omega)
      rwa [head_append (by intro h; simp [h] at hla)] at this)
    have hc := hd c (by simp)
    have hcf := digit_facts hc
    match a, hla with
    | b :: a', hla =>
      have hb : b ≠ 48 := fun e => hz (by simp at hl ⊢) (by simp [e])
      have hp : 1 ≤ val (b :: a') := val_pos (hd b (by simp)) hb
      have e : val (b :: a' ++ [c]) = val (b :: a') * 10 + (c.toNat - 48) := valF_snoc 0 _ c
      rw [e, dec_more (by omega), show (val (b :: a') * 10 + (c.toNat - 48)) / 10 = val (b :: a') by omega, show (val (b :: a') * 10 + (c.toNat - 48)) % 10 = c.toNat - 48 by omega, ih, of_byte hc]
theorem dec_head {n : Nat} (h : 1 < (dec n).length) : (dec n).head? ≠ some 48 := by
  induction n using Nat.strongRecOn with
  | _ n ih =>
    by_cases h1 : n < 10
    · rw [dec_low h1] at h; simp at h
    · rw [dec_more h1, head_append (dec_ne _)]
      by_cases h2 : n / 10 < 10
      · rw [dec_low h2]
        simp only [List.head?_cons, ne_eq, Option.some.injEq]
        intro e
        have := congrArg UInt8.toNat e
        rw [byte_of _ h2] at this
        have h48 : (48 : UInt8).toNat = 48 := rfl
        omega
      · refine ih (n / 10) (by omega) ?_
        rw [dec_more h2, List.length_append]
        have := dec_pos (n / 10 / 10)
        simp; omega
/- A word that is at most so much. -/
def numOf (l : List UInt8) (most : Nat) : Option Nat := if dec (val l) = l ∧ val l ≤ most then some (val l) else none
theorem num_some {l : List UInt8} {m n : Nat} : numOf l m = some n ↔ l = dec n ∧ n ≤ m := by
  unfold numOf
  constructor
  · intro h
    split at h
    · rename_i h1
      cases h
      exact ⟨h1.1.symm, h1.2⟩
    · cases h
  · rintro ⟨rfl, h⟩
    rw [val_dec, if_pos ⟨rfl, h⟩]
theorem num_none {l : List UInt8} {m : Nat} (h : ∀ n, n ≤ m → l ≠ dec n) : numOf l m = none := by
  cases e : numOf l m with
  | none => rfl
  | some n =>
    obtain ⟨e1, e2⟩ := num_some.1 e
    exact absurd e1 (h n e2)
theorem parseM_val : ∀ (l : List UInt8) (a : Nat), (∀ c ∈ l, digit c = true) → valF a l ≤ 18446744073709551615 → Lib.parseUintM 18446744073709551615 a l = .ok (valF a l)
  | [], a, _, _ => rfl
  | c :: l, a, hd, h => by
    have hc := digit_facts (hd c (by simp))
    have hge := valF_ge l (a * 10 + (c.toNat - 48))
    have h' : valF (a * 10 + (c.toNat - 48)) l ≤ 18446744073709551615 := h
    unfold Lib.parseUintM
    rw [if_pos hc, if_neg (by omega), if_neg (by omega)]
    exact parseM_val l _ (fun x hx => hd x (by simp [hx])) h'
theorem parse_dec {n : Nat} (h : n < 18446744073709551616) : Lib.parseUintB 64 (dec n) = .ok n := by
  unfold Lib.parseUintB
  rw [if_neg (dec_ne n)]
  have := parseM_val (dec n) 0 (dec_digit n) (by show val (dec n) ≤ _; rw [val_dec]; omega)
  rw [show (2 : Nat) ^ 64 - 1 = 18446744073709551615 from rfl, this]
  show Lib.NumEnd.ok (val (dec n)) = _
  rw [val_dec]

/- A text up to a byte. -/
def pre (t : List UInt8) (c : UInt8) : List UInt8 := t.takeWhile (· != c)
theorem pre_cons (x : UInt8) (t : List UInt8) (c : UInt8) : pre (x :: t) c = if x = c then [] else x :: pre t c := by
  by_cases h : x = c
  · subst h; simp [pre]
  · simp [pre, List.takeWhile_cons, h]
theorem pre_not : ∀ (t : List UInt8) (c : UInt8), c ∉ pre t c
  | [], c => by simp [pre]
  | x :: t, c => by
    rw [pre_cons]
    split
    · simp
    · rename_i h
      have := pre_not t c
      simp only [List.mem_cons, not_or]
      exact ⟨fun e => h e.symm, this⟩
theorem pre_mem : ∀ (t : List UInt8) (c : UInt8), c ∈ t → (pre t c).length < t.length
  | x :: t, c, h => by
    rw [pre_cons]
    split
    · simp
    · rename_i hx
      have := pre_mem t c ((List.mem_cons.1 h).resolve_left (fun e => hx e.symm))
      simpa using this
theorem pre_append : ∀ (a : List UInt8) (c : UInt8) (b : List UInt8), c ∉ a → pre (a ++ c :: b) c = a
  | [], c, b, _ => by simp [pre]
  | x :: a, c, b, h => by
    have hx : x ≠ c := fun e => h (by simp [e])
    have := pre_append a c b (fun hm => h (by simp [hm]))
    unfold pre at *
    simp [List.takeWhile_cons, hx, this]
theorem pre_all : ∀ (t : List UInt8) (c : UInt8), c ∉ t → pre t c = t
  | [], c, _ => rfl
  | x :: a, c, h => by
    have hx : x ≠ c := fun e => h (by simp [e])
    have := pre_all a c (fun hm => h (by simp [hm]))
    unfold pre at *
    simp [List.takeWhile_cons, hx, this]
theorem pre_le (t : List UInt8) (c : UInt8) : (pre t c).length ≤ t.length := List.Sublist.length_le (List.takeWhile_sublist _)
/- Where the byte is there: ahead of it, it, behind it. -/
theorem pre_split : ∀ (t : List UInt8) (c : UInt8), (pre t c).length < t.length → t = pre t c ++ c :: t.drop ((pre t c).length + 1)
  | [], c, h => by simp [pre] at h
  | x :: t, c, h => by
    by_cases hx : x = c
    · subst hx; simp [pre]
    · have e : pre (x :: t) c = x :: pre t c := by simp [pre, List.takeWhile_cons, hx]
      rw [e] at h ⊢
      have := pre_split t c (by simpa using h)
      simpa using this
theorem pre_end (t : List UInt8) (c : UInt8) (h : ¬ (pre t c).length < t.length) : pre t c = t :=
  pre_all t c (fun hm => h (pre_mem t c hm))
theorem pre_none {t : List UInt8} {c : UInt8} (h : ¬ (pre t c).length < t.length) : c ∉ t := by
  rw [← pre_end t c h]; exact pre_not t c
/- Two texts that are cut at their first blanks. -/
theorem cut_inj {a b x y : List UInt8} {c : UInt8} (ha : c ∉ a) (hb : c ∉ b) (h : a ++ c :: x = b ++ c :: y) : a = b ∧ x = y := by
  have h1 := pre_append a c x ha
  rw [h, pre_append b c y hb] at h1
  subst h1
  exact ⟨rfl, by simpa using h⟩

/- A key that may be. -/
def kOk (k : List UInt8) : Bool := decide (1 ≤ k.length) && decide (k.length ≤ 250) && k.all good
theorem key_ok (s : ByteArray) : keyMay s = kOk s.data.toList := by
  unfold keyMay kOk
  rw [show s.data.toList.length = s.size by simp]
theorem kOk_mem {k : List UInt8} (h : kOk k = true) : ∀ c ∈ k, good c = true := by
  unfold kOk at h
  simp only [Bool.and_eq_true, List.all_eq_true] at h
  exact h.2
theorem kOk_len {k : List UInt8} (h : kOk k = true) : 1 ≤ k.length ∧ k.length ≤ 250 := by
  unfold kOk at h
  simp only [Bool.and_eq_true, decide_eq_true_eq] at h
  exact h.1
theorem good_ne {c : UInt8} (h : good c = true) : c ≠ 32 ∧ c ≠ 10 ∧ c ≠ 13 := by
  unfold good at h
  simp at h
  refine ⟨?_, ?_, ?_⟩ <;> (rintro rfl; simp at h)
theorem digit_ne {c : UInt8} (h : digit c = true) : c ≠ 32 ∧ c ≠ 10 ∧ c ≠ 13 := by
  have := digit_facts h
  refine ⟨?_, ?_, ?_⟩ <;> (rintro rfl; simp at this)
theorem key_not {k : List UInt8} (h : kOk k = true) (c : UInt8) (hc : good c = false) : c ∉ k := fun hm => by
  rw [kOk_mem h c hm] at hc; cases hc
theorem dec_not (n : Nat) (c : UInt8) (hc : digit c = false) : c ∉ dec n := fun hm => by
  rw [dec_digit n c hm] at hc; cases hc
/- An item's first line. -/
def first3 (f n : Nat) : List UInt8 := dec f ++ 32 :: (dec n ++ [13, 10])
def firstL (k : List UInt8) (f n : Nat) : List UInt8 := [86, 65, 76, 85, 69] ++ 32 :: (k ++ 32 :: first3 f n)
def FirstIs (l k : List UInt8) (f n : Nat) : Prop := l = firstL k f n ∧ kOk k = true ∧ f ≤ 4294967295 ∧ n ≤ 1024
theorem first_uniq {l k k' : List UInt8} {f n f' n' : Nat} (h : FirstIs l k f n) (h' : FirstIs l k' f' n') : k = k' ∧ f = f' ∧ n = n' := by
  obtain ⟨e, a1, -, -⟩ := h
  obtain ⟨e', b1, -, -⟩ := h'
  rw [e] at e'
  obtain ⟨-, e1⟩ := cut_inj (by simp) (by simp) e'
  obtain ⟨rfl, e2⟩ := cut_inj (key_not a1 32 rfl) (key_not b1 32 rfl) e1
  obtain ⟨e3, e4⟩ := cut_inj (dec_not f 32 rfl) (dec_not f' 32 rfl) e2
  exact ⟨rfl, dec_inj e3, dec_inj (List.append_cancel_right e4)⟩
/- Its parts, where they would stand, and whether it is just what they say. -/
def seekOf (l : List UInt8) : List UInt8 × Nat × Nat :=
  (pre (l.drop 6) 32, val (pre ((l.drop 6).drop ((pre (l.drop 6) 32).length + 1)) 32),
    val (pre (((l.drop 6).drop ((pre (l.drop 6) 32).length + 1)).drop ((pre ((l.drop 6).drop ((pre (l.drop 6) 32).length + 1)) 32).length + 1)) 13))
def firstOf (l : List UInt8) : Option (List UInt8 × Nat × Nat) :=
  if l = firstL (seekOf l).1 (seekOf l).2.1 (seekOf l).2.2 ∧ kOk (seekOf l).1 = true ∧ (seekOf l).2.1 ≤ 4294967295 ∧ (seekOf l).2.2 ≤ 1024 then some (seekOf l) else none
theorem drop_pre {a b : List UInt8} {c : UInt8} : (a ++ c :: b).drop (a.length + 1) = b := by simp
theorem seek_is {k : List UInt8} (hk : kOk k = true) (f n : Nat) : seekOf (firstL k f n) = (k, f, n) := by
  have e1 : (firstL k f n).drop 6 = k ++ 32 :: first3 f n := rfl
  have e2 : pre (k ++ 32 :: first3 f n) 32 = k := pre_append _ _ _ (key_not hk 32 rfl)
  have e3 : (k ++ 32 :: first3 f n).drop (k.length + 1) = first3 f n := drop_pre
  have e4 : pre (first3 f n) 32 = dec f := pre_append _ _ _ (dec_not f 32 rfl)
  have e5 : (first3 f n).drop ((dec f).length + 1) = dec n ++ [13, 10] := drop_pre
  have e6 : pre (dec n ++ [13, 10]) 13 = dec n := pre_append _ _ _ (dec_not n 13 rfl)
  unfold seekOf
  rw [e1, e2, e3, e4, e5, e6, val_dec, val_dec]
theorem first_some {l k : List UInt8} {f n : Nat} (h : FirstIs l k f n) : firstOf l = some (k, f, n) := by
  obtain ⟨rfl, h1, h2, h3⟩ := h
  unfold firstOf
  rw [seek_is h1]
  exact if_pos ⟨rfl, h1, h2, h3⟩
theorem first_none {l : List UInt8} (h : ∀ k f n, ¬ FirstIs l k f n) : firstOf l = none := by
  unfold firstOf
  exact if_neg fun hx => h _ _ _ hx
theorem first_is {l k : List UInt8} {f n : Nat} (h : firstOf l = some (k, f, n)) : FirstIs l k f n := by
  unfold firstOf at h
  split at h
  · rename_i hx
    have this : FirstIs l (seekOf l).1 (seekOf l).2.1 (seekOf l).2.2 := hx
    injection h with h
    rw [h] at this
    exact this
  · cases h
theorem first_len {l k : List UInt8} {f n : Nat} (h : FirstIs l k f n) : l.length ≤ 274 := by
  obtain ⟨rfl, h1, h2, h3⟩ := h
  have a := (kOk_len h1).2
  have b := dec_len 10 f (by omega) (by omega)
  have c := dec_len 4 n (by omega) (by omega)
  unfold firstL first3
  simp only [List.length_append, List.length_cons, List.length_nil]
  omega
/- It ends with a return and a line feed, which stand nowhere else in it. -/
theorem first_lf {k : List UInt8} {f n : Nat} (h : kOk k = true) : ∃ a, firstL k f n = a ++ [13, 10] ∧ (10 : UInt8) ∉ a := by
  refine ⟨[86, 65, 76, 85, 69] ++ 32 :: (k ++ 32 :: (dec f ++ 32 :: dec n)), by simp [firstL, first3], ?_⟩
  have h1 := key_not h 10 rfl
  have h2 := dec_not f 10 rfl
  have h3 := dec_not n 10 rfl
  simp [h1, h2, h3]

/- One step of reading. -/
def endL : List UInt8 := [69, 78, 68, 13, 10]
abbrev St := Nat ⊕ List UInt8 ⊕ (List UInt8 × Nat × List UInt8 × List UInt8)
abbrev St.err (c : Nat) : St := .inl c
abbrev St.done (r : List UInt8) : St := .inr (.inl r)
abbrev St.item (k : List UInt8) (f : Nat) (b r : List UInt8) : St := .inr (.inr (k, f, b, r))
theorem St.each {motive : St → Prop} (err : ∀ c, motive (.err c)) (done : ∀ r, motive (.done r)) (item : ∀ k f b r, motive (.item k f b r)) (s : St) : motive s := by
  rcases s with c | r | ⟨k, f, b, r⟩
  · exact err c
  · exact done r
  · exact item k f b r
theorem item_inj {k k' b b' r r' : List UInt8} {f f' : Nat} (h : St.item k f b r = St.item k' f' b' r') : k = k' ∧ f = f' ∧ b = b' ∧ r = r' := by
  simpa using h
theorem done_inj {r r' : List UInt8} (h : St.done r = St.done r') : r = r' := by simpa using h
def bodyOf (k : List UInt8) (f n : Nat) (t : List UInt8) : St :=
  if [13, 10] <+: t.drop n then .item k f (t.take n) (t.drop (n + 2))
  else if t.drop n <+: [13, 10] then .err 2 else .err 3
def lineOf (l t : List UInt8) : St :=
  if l = endL then .done t else match firstOf l with
    | none => .err 3
    | some (k, f, n) => bodyOf k f n t
def stepOf (t : List UInt8) : St :=
  if 300 < (pre t 10).length then .err 3
  else if t.length ≤ (pre t 10).length then .err 2
  else lineOf (t.take ((pre t 10).length + 1)) (t.drop ((pre t 10).length + 1))
def itemL (k : List UInt8) (f : Nat) (b : List UInt8) : List UInt8 := firstL k f b.length ++ (b ++ [13, 10])
theorem body_item {k b r t : List UInt8} {f n : Nat} (h : bodyOf k f n t = .item k f b r) : t = b ++ ([13, 10] ++ r) ∧ b.length = n := by
  unfold bodyOf at h
  split at h
  · rename_i h1
    obtain ⟨-, -, e1, e2⟩ := item_inj h
    obtain ⟨q, hq⟩ := h1
    have hlen : n + 2 ≤ t.length := by
      have := congrArg List.length hq
      simp at this
      omega
    refine ⟨?_, by rw [← e1, List.length_take]; omega⟩
    rw [← e1, ← e2]
    have e3 : t.drop (n + 2) = q := by
      rw [← List.drop_drop, ← hq]; rfl
    rw [e3, hq, List.take_append_drop]
  · split at h <;> cases h
theorem body_kf {k k' b r t : List UInt8} {f f' n : Nat} (h : bodyOf k f n t = .item k' f' b r) : k' = k ∧ f' = f := by
  unfold bodyOf at h
  split at h
  · obtain ⟨e1, e2, -, -⟩ := item_inj h; exact ⟨e1.symm, e2.symm⟩
  · split at h <;> cases h
theorem body_is (k b r : List UInt8) (f : Nat) : bodyOf k f b.length (b ++ ([13, 10] ++ r)) = .item k f b r := by
  unfold bodyOf
  have h1 : (b ++ ([13, 10] ++ r)).drop b.length = [13, 10] ++ r := by simp
  rw [h1, if_pos ⟨r, rfl⟩]
  have h2 : (b ++ ([13, 10] ++ r)).drop (b.length + 2) = r := by rw [← List.drop_drop, h1]; rfl
  rw [h2]
  simp
theorem step_line {a t : List UInt8} (ha : (10 : UInt8) ∉ a) (hl : a.length ≤ 299) : stepOf (a ++ [13, 10] ++ t) = lineOf (a ++ [13, 10]) t := by
  have e : pre (a ++ [13, 10] ++ t) 10 = a ++ [13] := by
    rw [show a ++ [13, 10] ++ t = (a ++ [13]) ++ 10 :: t by simp]
    exact pre_append _ _ _ (by simp [ha])
  have e2 : (pre (a ++ [13, 10] ++ t) 10).length + 1 = (a ++ [13, 10]).length := by rw [e]; simp
  unfold stepOf
  rw [if_neg (by rw [e]; simp; omega), if_neg (by rw [e]; simp), e2, List.take_left, List.drop_left]
theorem step_item {k b : List UInt8} {f : Nat} (r : List UInt8) (hk : kOk k = true) (hf : f ≤ 4294967295) (hb : b.length ≤ 1024) : stepOf (itemL k f b ++ r) = .item k f b r := by
  have hF : FirstIs (firstL k f b.length) k f b.length := ⟨rfl, hk, hf, hb⟩
  obtain ⟨a, ea, ha⟩ := first_lf (f := f) (n := b.length) hk
  have hlen := first_len hF
  rw [ea] at hlen
  unfold itemL
  rw [List.append_assoc, ea, step_line ha (by simp at hlen; omega), ← ea]
  unfold lineOf
  rw [if_neg (by unfold firstL endL; intro e; cases e), first_some hF]
  simp only
  rw [List.append_assoc]
  exact body_is _ _ _ _
theorem step_end (r : List UInt8) : stepOf (endL ++ r) = .done r := by
  have := step_line (a := [69, 78, 68]) (t := r) (by simp) (by simp)
  show stepOf ([69, 78, 68] ++ [13, 10] ++ r) = _
  rw [this]
  unfold lineOf
  rw [if_pos (show ([69, 78, 68] ++ [13, 10] : List UInt8) = endL from rfl)]
theorem step_ended {t : List UInt8} (h1 : ¬ 300 < (pre t 10).length) (h2 : ¬ t.length ≤ (pre t 10).length) : t = t.take ((pre t 10).length + 1) ++ t.drop ((pre t 10).length + 1) := by simp
theorem step_inv_item {t k b r : List UInt8} {f : Nat} (h : stepOf t = .item k f b r) : t = itemL k f b ++ r ∧ kOk k = true ∧ f ≤ 4294967295 ∧ b.length ≤ 1024 := by
  unfold stepOf at h
  split at h
  · cases h
  · split at h
    · cases h
    · unfold lineOf at h
      split at h
      · cases h
      · split at h
        · cases h
        · rename_i k' f' n' hF
          obtain ⟨rfl, rfl⟩ := body_kf h
          obtain ⟨e1, e2⟩ := body_item h
          obtain ⟨e3, h1, h2, h3⟩ := first_is hF
          refine ⟨?_, h1, h2, by omega⟩
          unfold itemL
          rw [e2, ← e3, List.append_assoc, List.append_assoc, ← e1]
          simp
theorem step_inv_done {t r : List UInt8} (h : stepOf t = .done r) : t = endL ++ r := by
  unfold stepOf at h
  split at h
  · cases h
  · split at h
    · cases h
    · unfold lineOf at h
      split at h
      · rename_i e
        have h := done_inj h
        rw [← e, ← h]
        simp
      · split at h
        · cases h
        · unfold bodyOf at h
          split at h
          · cases h
          · split at h <;> cases h
theorem item_len (k : List UInt8) (f : Nat) (b : List UInt8) : 1 ≤ (itemL k f b).length := by simp [itemL, firstL]
/- A beginning of an item, or of the end. -/
theorem step_early {x : List UInt8} (h : (10 : UInt8) ∉ x) (hl : x.length ≤ 300) : stepOf x = .err 2 := by
  unfold stepOf
  rw [pre_all x 10 h, if_neg (by omega), if_pos (Nat.le_refl _)]
theorem not_mem_take {a : List UInt8} {c : UInt8} (h : c ∉ a) (k : Nat) : c ∉ a.take k := fun hm => h (List.mem_of_mem_take hm)
theorem step_short {k b : List UInt8} {f : Nat} (hk : kOk k = true) (hf : f ≤ 4294967295) (hb : b.length ≤ 1024) (j : Nat) (hj : j < (itemL k f b).length) : stepOf ((itemL k f b).take j) = .err 2 := by
  have hF : FirstIs (firstL k f b.length) k f b.length := ⟨rfl, hk, hf, hb⟩
  obtain ⟨a, ea, ha⟩ := first_lf (f := f) (n := b.length) hk
  have hlen := first_len hF
  rw [ea] at hlen
  simp only [List.length_append, List.length_cons, List.length_nil] at hlen
  have e0 : itemL k f b = (a ++ [13]) ++ 10 :: (b ++ [13, 10]) := by unfold itemL; rw [ea]; simp
  by_cases h1 : j ≤ (a ++ [13]).length
  · rw [e0, List.take_append_of_le_length h1]
    refine step_early (not_mem_take (by simp [ha]) _) ?_
    rw [List.length_take]
    simp at h1 ⊢
    omega
  · obtain ⟨i, rfl⟩ : ∃ i, j = (a ++ [13, 10]).length + i := ⟨j - (a ++ [13, 10]).length, by simp at h1 ⊢; omega⟩
    have e1 : (itemL k f b).take ((a ++ [13, 10]).length + i) = a ++ [13, 10] ++ (b ++ [13, 10]).take i := by
      unfold itemL
      rw [ea, List.take_length_add_append]
    have hi : i < b.length + 2 := by
      unfold itemL at hj
      rw [ea] at hj
      simp at hj
      omega
    rw [e1, step_line ha (by omega), ← ea]
    unfold lineOf
    rw [if_neg (by unfold firstL endL; intro e; cases e), first_some hF]
    simp only
    unfold bodyOf
    have e2 : ((b ++ [13, 10]).take i).drop b.length = ([13, 10] : List UInt8).take (i - b.length) := by
      rw [List.drop_take]; simp
    rw [e2, if_neg, if_pos]
    · exact List.take_prefix _ _
    · rintro ⟨q, hq⟩
      have := congrArg List.length hq
      simp only [List.length_append, List.length_take, List.length_cons, List.length_nil] at this
      omega
theorem step_end_short (j : Nat) (hj : j < 5) : stepOf (endL.take j) = .err 2 := by
  have e : endL.take j = ([69, 78, 68, 13] : List UInt8).take j := by
    show ([69, 78, 68, 13] ++ [10] : List UInt8).take j = _
    rw [List.take_append_of_le_length (by simp; omega)]
  rw [e]
  exact step_early (not_mem_take (by simp) j) (by rw [List.length_take]; simp; omega)

/- Reading. -/
structure It where
  key : List UInt8
  flags : Nat
  body : List UInt8
def It.may (x : It) : Prop := kOk x.key = true ∧ x.flags ≤ 4294967295 ∧ x.body.length ≤ 1024
def itL (x : It) : List UInt8 := itemL x.key x.flags x.body
def itemsL (l : List It) : List UInt8 := l.flatMap itL ++ endL
abbrev Out := Nat ⊕ (List It × List UInt8)
abbrev Out.err (c : Nat) : Out := .inl c
abbrev Out.ok (l : List It) (r : List UInt8) : Out := .inr (l, r)
theorem Out.each {motive : Out → Prop} (err : ∀ c, motive (.err c)) (ok : ∀ l r, motive (.ok l r)) (o : Out) : motive o := by
  rcases o with c | ⟨l, r⟩
  · exact err c
  · exact ok l r
def Out.on (a : List It) : Out → Out
  | .inl c => .inl c
  | .inr (l, r) => .inr (a ++ l, r)
theorem Out.on_nil (o : Out) : Out.on [] o = o := by cases o using Out.each <;> rfl
theorem Out.on_on (a b : List It) (o : Out) : Out.on a (Out.on b o) = Out.on (a ++ b) o := by cases o using Out.each <;> simp [Out.on]
theorem step_less {t k b r : List UInt8} {f : Nat} (h : stepOf t = .item k f b r) : r.length < t.length := by
  obtain ⟨e, -⟩ := step_inv_item h
  rw [e, List.length_append]
  have := item_len k f b
  omega
def readN : Nat → List UInt8 → Out
  | 0, _ => .inl 0
  | m + 1, t => match stepOf t with
    | .inl c => .inl c
    | .inr (.inl r) => .inr ([], r)
    | .inr (.inr (k, f, b, r)) => Out.on [⟨k, f, b⟩] (readN m r)
def readOf (t : List UInt8) : Out := readN (t.length + 1) t
theorem readN_ge : ∀ (m n : Nat) (t : List UInt8), t.length < m → t.length < n → readN m t = readN n t
  | 0, _, _, h, _ => absurd h (by omega)
  | _, 0, _, _, h => absurd h (by omega)
  | m + 1, n + 1, t, h1, h2 => by
    unfold readN
    cases hs : stepOf t using St.each with
    | err c => rfl
    | done r => rfl
    | item k f b r =>
      have := step_less hs
      show Out.on [⟨k, f, b⟩] (readN m r) = Out.on [⟨k, f, b⟩] (readN n r)
      rw [readN_ge m n r (by omega) (by omega)]
theorem read_err {t : List UInt8} {c : Nat} (h : stepOf t = .err c) : readOf t = .err c := by
  unfold readOf readN; rw [h]
theorem read_done {t r : List UInt8} (h : stepOf t = .done r) : readOf t = .ok [] r := by
  unfold readOf readN; rw [h]
theorem read_item {t k b r : List UInt8} {f : Nat} (h : stepOf t = .item k f b r) : readOf t = Out.on [⟨k, f, b⟩] (readOf r) := by
  have := step_less h
  unfold readOf
  rw [readN_ge (r.length + 1) t.length r (by omega) this]
  show readN (t.length + 1) t = _
  rw [readN]; rw [h]
theorem read_back : ∀ (l : List It) (r : List UInt8), (∀ x ∈ l, x.may) → readOf (itemsL l ++ r) = .ok l r
  | [], r, _ => by
    show readOf (endL ++ r) = _
    exact read_done (step_end r)
  | x :: l, r, h => by
    obtain ⟨h1, h2, h3⟩ := h x (by simp)
    have ih := read_back l r (fun y hy => h y (by simp [hy]))
    have e : itemsL (x :: l) ++ r = itemL x.key x.flags x.body ++ (itemsL l ++ r) := by simp [itemsL, itL]
    rw [e, read_item (step_item _ h1 h2 h3), ih]
    rfl
theorem read_inv : ∀ (n : Nat) (t : List UInt8), t.length ≤ n → ∀ l r, readOf t = .ok l r → t = itemsL l ++ r ∧ ∀ x ∈ l, x.may := by
  intro n
  induction n with
  | zero =>
    intro t ht l r h
    cases hs : stepOf t using St.each with
    | err c => rw [read_err hs] at h; cases h
    | done q =>
      rw [read_done hs] at h
      cases h
      exact ⟨step_inv_done hs, by simp⟩
    | item k f b q => have := step_less hs; omega
  | succ n ih =>
    intro t ht l r h
    cases hs : stepOf t using St.each with
    | err c => rw [read_err hs] at h; cases h
    | done q =>
      rw [read_done hs] at h
      cases h
      exact ⟨step_inv_done hs, by simp⟩
    | item k f b q =>
      have hless := step_less hs
      obtain ⟨e, h1, h2, h3⟩ := step_inv_item hs
      rw [read_item hs] at h
      cases hq : readOf q using Out.each with
      | err c => rw [hq] at h; cases h
      | ok m s =>
        rw [hq] at h
        cases h
        obtain ⟨e2, h4⟩ := ih q (by omega) m r hq
        refine ⟨?_, ?_⟩
        · rw [e, e2]; simp [itemsL, itL]
        · intro x hx
          simp only [List.singleton_append, List.mem_cons] at hx
          rcases hx with rfl | hx
          · exact ⟨h1, h2, h3⟩
          · exact h4 x hx
theorem read_short : ∀ (l : List It) (j : Nat), (∀ x ∈ l, x.may) → j < (itemsL l).length → readOf ((itemsL l).take j) = .err 2
  | [], j, _, hj => read_err (step_end_short j hj)
  | x :: l, j, h, hj => by
    obtain ⟨h1, h2, h3⟩ := h x (by simp)
    have e : itemsL (x :: l) = itemL x.key x.flags x.body ++ itemsL l := by simp [itemsL, itL]
    rw [e] at hj ⊢
    by_cases hlt : j < (itemL x.key x.flags x.body).length
    · rw [List.take_append_of_le_length (by omega)]
      exact read_err (step_short h1 h2 h3 j hlt)
    · obtain ⟨i, rfl⟩ : ∃ i, j = (itemL x.key x.flags x.body).length + i := ⟨j - (itemL x.key x.flags x.body).length, by omega⟩
      rw [List.take_length_add_append, read_item (step_item _ h1 h2 h3), read_short l i (fun y hy => h y (by simp [hy])) (by simp at hj; omega)]
      rfl
end Go.Proofs.YtlbpmehlfihpbaaDoor
