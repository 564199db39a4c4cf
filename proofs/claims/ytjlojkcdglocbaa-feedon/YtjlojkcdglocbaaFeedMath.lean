/- The plain mathematics of a feed: a machine that reads a stream byte by byte, and what the program's own steps come to there. No condition. -/
import Derived.Test.YtjlojkcdglocbaaMath
namespace Go.Proofs.Ytjlojkcdglocbaa
set_option linter.unusedVariables false
set_option linter.unusedSimpArgs false

def rLong : ByteArray := ⟨#[67, 76, 73, 69, 78, 84, 95, 69, 82, 82, 79, 82, 32, 108, 105, 110, 101, 32, 116, 111, 111, 32, 108, 111, 110, 103, 13, 10]⟩
def rChunk : ByteArray := ⟨#[67, 76, 73, 69, 78, 84, 95, 69, 82, 82, 79, 82, 32, 98, 97, 100, 32, 100, 97, 116, 97, 32, 99, 104, 117, 110, 107, 13, 10]⟩
def zc : Cm := ⟨0, [], 0, 0, false, mt⟩
structure Td where
  c : Cm
  body : ByteArray
abbrev Fs := List UInt8 ⊕ (Cm × Nat × List UInt8) ⊕ (Cm × List UInt8) ⊕ List UInt8 ⊕ Nat ⊕ Unit
abbrev Fs.line (h : List UInt8) : Fs := .inl h
abbrev Fs.data (c : Cm) (left : Nat) (h : List UInt8) : Fs := .inr (.inl (c, left, h))
abbrev Fs.tend (c : Cm) (h : List UInt8) : Fs := .inr (.inr (.inl (c, h)))
abbrev Fs.wrong (h : List UInt8) : Fs := .inr (.inr (.inr (.inl h)))
abbrev Fs.pass (left : Nat) : Fs := .inr (.inr (.inr (.inr (.inl left))))
abbrev Fs.over : Fs := .inr (.inr (.inr (.inr (.inr ()))))
theorem Fs.each {motive : Fs → Prop} (line : ∀ h, motive (.line h)) (data : ∀ c left h, motive (.data c left h)) (tend : ∀ c h, motive (.tend c h)) (wrong : ∀ h, motive (.wrong h)) (pass : ∀ left, motive (.pass left)) (over : motive .over) (σ : Fs) : motive σ := by
  rcases σ with h | ⟨c, l, h⟩ | ⟨c, h⟩ | h | l | ⟨⟩
  · exact line h
  · exact data c l h
  · exact tend c h
  · exact wrong h
  · exact pass l
  · exact over
def trimR (h : List UInt8) : List UInt8 := if h.getLast? = some 13 then h.dropLast else h
def lineC (h : List UInt8) : Cm × Int := parseC (words (ba (trimR h)))
def saidBy (p : Cm × Int) : List Td × Fs :=
  if p.1.kind = 7 then ([⟨p.1, mt⟩], .over)
  else if p.1.kind = 2 then ([], .data p.1 p.2.toNat [])
  else if 0 ≤ p.2 then ([⟨p.1, mt⟩], .pass p.2.toNat)
  else ([⟨p.1, mt⟩], .line [])
def stepB : Fs → UInt8 → List Td × Fs
  | .inl h, b => if b = 10 then saidBy (lineC h) else if 2048 ≤ h.length then ([⟨bad rLong, mt⟩], .pass 0) else ([], .line (h ++ [b]))
  | .inr (.inl (c, n, h)), b => if n = 0 then (if b = 13 then ([], .tend c h) else if b = 10 then ([⟨bad rChunk, mt⟩], .line []) else ([], .wrong h)) else ([], .data c (n - 1) (h ++ [b]))
  | .inr (.inr (.inl (c, h))), b => if b = 10 then ([⟨c, ba h⟩], .line []) else ([], .wrong h)
  | .inr (.inr (.inr (.inl h))), b => if b = 10 then ([⟨bad rChunk, mt⟩], .line []) else ([], .wrong h)
  | .inr (.inr (.inr (.inr (.inl n)))), b => if n = 0 then (if b = 10 then ([], .line []) else ([], .pass 0)) else ([], .pass (n - 1))
  | .inr (.inr (.inr (.inr (.inr _)))), _ => ([], .over)
def runB : Fs → List UInt8 → List Td × Fs
  | σ, [] => ([], σ)
  | σ, b :: t => ((stepB σ b).1 ++ (runB (stepB σ b).2 t).1, (runB (stepB σ b).2 t).2)
theorem runB_nil (σ : Fs) : runB σ [] = ([], σ) := rfl
theorem runB_cons (σ : Fs) (b : UInt8) (t : List UInt8) : runB σ (b :: t) = ((stepB σ b).1 ++ (runB (stepB σ b).2 t).1, (runB (stepB σ b).2 t).2) := rfl
theorem runB_append (σ : Fs) (x y : List UInt8) : runB σ (x ++ y) = ((runB σ x).1 ++ (runB (runB σ x).2 y).1, (runB (runB σ x).2 y).2) := by
  induction x generalizing σ with
  | nil => simp [runB]
  | cons b t ih => simp only [List.cons_append, runB_cons, ih, List.append_assoc]
theorem runB_quiet {σ σ' : Fs} {x : List UInt8} (h : runB σ x = ([], σ')) (y : List UInt8) : runB σ (x ++ y) = runB σ' y := by
  rw [runB_append, h]; simp
theorem runB_over (x : List UInt8) : runB .over x = ([], .over) := by
  induction x with
  | nil => rfl
  | cons b t ih => rw [runB_cons]; simp [stepB, ih]

theorem run_line (x h : List UInt8) (hx : (10 : UInt8) ∉ x) (hl : h.length + x.length ≤ 2048) : runB (.line h) x = ([], .line (h ++ x)) := by
  induction x generalizing h with
  | nil => simp [runB]
  | cons b t ih =>
    have hb : b ≠ 10 := fun e => hx (by simp [e])
    have h1 : ¬ 2048 ≤ h.length := by simp at hl; omega
    rw [runB_cons]
    simp only [stepB, if_neg hb, if_neg h1]
    rw [ih (h ++ [b]) (fun e => hx (by simp [e])) (by simp at hl ⊢; omega)]
    simp
theorem run_line_end (x h y : List UInt8) (hx : (10 : UInt8) ∉ x) (hl : h.length + x.length ≤ 2048) : runB (.line h) (x ++ 10 :: y) = ((saidBy (lineC (h ++ x))).1 ++ (runB (saidBy (lineC (h ++ x))).2 y).1, (runB (saidBy (lineC (h ++ x))).2 y).2) := by
  rw [runB_quiet (run_line x h hx hl), runB_cons]
  simp [stepB]
theorem run_line_long (x h y : List UInt8) (b : UInt8) (hx : (10 : UInt8) ∉ x) (hb : b ≠ 10) (hl : h.length + x.length = 2048) : runB (.line h) (x ++ b :: y) = (⟨bad rLong, mt⟩ :: (runB (.pass 0) y).1, (runB (.pass 0) y).2) := by
  rw [runB_quiet (run_line x h hx (by omega)), runB_cons]
  have h1 : 2048 ≤ (h ++ x).length := by simp; omega
  simp only [stepB, if_neg hb, if_pos h1]
  rfl
theorem run_data (x : List UInt8) (c : Cm) (n : Nat) (h : List UInt8) (hl : x.length ≤ n) : runB (.data c n h) x = ([], .data c (n - x.length) (h ++ x)) := by
  induction x generalizing n h with
  | nil => simp [runB]
  | cons b t ih =>
    simp at hl
    have h0 : n ≠ 0 := by omega
    rw [runB_cons]
    simp only [stepB, if_neg h0]
    rw [ih (n - 1) _ (by omega)]
    simp
    omega
theorem run_pass (x : List UInt8) (n : Nat) (hl : x.length ≤ n) : runB (.pass n) x = ([], .pass (n - x.length)) := by
  induction x generalizing n with
  | nil => simp [runB]
  | cons b t ih =>
    simp at hl
    have h0 : n ≠ 0 := by omega
    rw [runB_cons]
    simp only [stepB, if_neg h0]
    rw [ih (n - 1) (by omega)]
    simp
    omega
theorem run_wrong (x h : List UInt8) (hx : (10 : UInt8) ∉ x) : runB (.wrong h) x = ([], .wrong h) := by
  induction x with
  | nil => rfl
  | cons b t ih =>
    have hb : b ≠ 10 := fun e => hx (by simp [e])
    rw [runB_cons]
    simp only [stepB, if_neg hb]
    rw [ih (fun e => hx (by simp [e]))]
    rfl
theorem run_wrong_end (x h y : List UInt8) (hx : (10 : UInt8) ∉ x) : runB (.wrong h) (x ++ 10 :: y) = (⟨bad rChunk, mt⟩ :: (runB (.line []) y).1, (runB (.line []) y).2) := by
  rw [runB_quiet (run_wrong x h hx), runB_cons]
  simp [stepB]
theorem run_rest (x : List UInt8) (hx : (10 : UInt8) ∉ x) : runB (.pass 0) x = ([], .pass 0) := by
  induction x with
  | nil => rfl
  | cons b t ih =>
    have hb : b ≠ 10 := fun e => hx (by simp [e])
    rw [runB_cons]
    simp only [stepB, if_neg hb, if_pos]
    rw [ih (fun e => hx (by simp [e]))]
    rfl
theorem run_rest_end (x y : List UInt8) (hx : (10 : UInt8) ∉ x) : runB (.pass 0) (x ++ 10 :: y) = runB (.line []) y := by
  rw [runB_quiet (run_rest x hx), runB_cons]
  simp [stepB]
theorem run_tail_wrong (c : Cm) (h : List UInt8) (b : UInt8) (y : List UInt8) (hb : b ≠ 13) : runB (.data c 0 h) (b :: y) = runB (.wrong h) (b :: y) := by
  rw [runB_cons, runB_cons]
  simp [stepB, hb]
theorem run_tend_wrong (c : Cm) (h : List UInt8) (b : UInt8) (y : List UInt8) (hb : b ≠ 10) : runB (.tend c h) (b :: y) = runB (.wrong h) (b :: y) := by
  rw [runB_cons, runB_cons]
  simp [stepB, hb]

/- What a line may say. -/
theorem amt_le {s : ByteArray} {n : Nat} (h : amt s = some n) : n ≤ 4294967295 := by
  unfold amt at h
  split at h
  · split at h
    · simp at h; omega
    · cases h
  · cases h
theorem dat_le (L : List ByteArray) : -1 ≤ dat L ∧ dat L ≤ 4294967295 := by
  unfold dat
  split
  · split
    · rename_i n h; have := amt_le h; omega
    · omega
  · omega
def Fits (p : Cm × Int) : Prop := ((p.1.kind = 2 ∧ 0 ≤ p.2 ∧ p.2 ≤ 1024) ∨ (p.1.kind = 8 ∧ -1 ≤ p.2 ∧ p.2 ≤ 4294967295) ∨ (p.2 = -1 ∧ (p.1.kind = 1 ∨ p.1.kind = 3 ∨ p.1.kind = 4 ∨ p.1.kind = 5 ∨ p.1.kind = 6 ∨ p.1.kind = 7))) ∧ p.1.keys.length ≤ 16
theorem fits_bad (r : ByteArray) (d : Int) (h1 : -1 ≤ d) (h2 : d ≤ 4294967295) : Fits (bad r, d) := ⟨.inr (.inl ⟨rfl, h1, h2⟩), by simp [bad]⟩
theorem fits_get (L : List ByteArray) : Fits (getC L, -1) := by
  unfold getC
  split
  · rename_i h
    simp at h
    exact ⟨.inr (.inr ⟨rfl, .inl rfl⟩), by simpa using h.1.2⟩
  · exact fits_bad _ _ (by omega) (by omega)
theorem fits_set (L : List ByteArray) : Fits (setC L, dat L) := by
  have hd := dat_le L
  unfold setC
  split
  · split
    · split
      · exact fits_bad _ _ hd.1 hd.2
      · split
        · exact fits_bad _ _ hd.1 hd.2
        · exact ⟨.inl ⟨rfl, by show 0 ≤ dat L; omega, by show dat L ≤ 1024; omega⟩, by simp⟩
    · exact fits_bad _ _ hd.1 hd.2
  · exact fits_bad _ _ hd.1 hd.2
theorem fits_del (L : List ByteArray) : Fits (delC L, -1) := by
  unfold delC
  split
  · exact ⟨.inr (.inr ⟨rfl, by simp⟩), by simp⟩
  · exact fits_bad _ _ (by omega) (by omega)
theorem fits_tou (L : List ByteArray) : Fits (touC L, -1) := by
  unfold touC
  split
  · split
    · exact ⟨.inr (.inr ⟨rfl, by simp⟩), by simp⟩
    · exact fits_bad _ _ (by omega) (by omega)
  · exact fits_bad _ _ (by omega) (by omega)
theorem fits_alo (k : Int) (hk : k = 5 ∨ k = 6 ∨ k = 7) (L : List ByteArray) : Fits (aloC k L, -1) := by
  unfold aloC
  split
  · exact ⟨.inr (.inr ⟨rfl, by simp; omega⟩), by simp⟩
  · exact fits_bad _ _ (by omega) (by omega)
theorem fits_parse (L : List ByteArray) : Fits (parseC L) := by
  cases L with
  | nil => exact fits_bad _ _ (by omega) (by omega)
  | cons x L =>
    show Fits (if x = ⟨#[103, 101, 116]⟩ then (getC L, -1)
      else if x = ⟨#[115, 101, 116]⟩ then (setC L, dat L)
      else if x = ⟨#[100, 101, 108, 101, 116, 101]⟩ then (delC L, -1)
      else if x = ⟨#[116, 111, 117, 99, 104]⟩ then (touC L, -1)
      else if x = ⟨#[115, 116, 97, 116, 115]⟩ then (aloC 5 L, -1)
      else if x = ⟨#[118, 101, 114, 115, 105, 111, 110]⟩ then (aloC 6 L, -1)
      else if x = ⟨#[113, 117, 105, 116]⟩ then (aloC 7 L, -1)
      else (bad rErr, -1))
    repeat' split
    · exact fits_get L
    · exact fits_set L
    · exact fits_del L
    · exact fits_tou L
    · exact fits_alo 5 (by omega) L
    · exact fits_alo 6 (by omega) L
    · exact fits_alo 7 (by omega) L
    · exact fits_bad _ _ (by omega) (by omega)
theorem fits_line (h : List UInt8) : Fits (lineC h) := fits_parse _

/- The states that can be. -/
def okS : Fs → Prop
  | .inl h => h.length ≤ 2048
  | .inr (.inl (c, n, h)) => c.kind = 2 ∧ c.keys.length ≤ 16 ∧ h.length + n ≤ 1024
  | .inr (.inr (.inl (c, h))) => c.kind = 2 ∧ c.keys.length ≤ 16 ∧ h.length ≤ 1024
  | .inr (.inr (.inr (.inl h))) => h.length ≤ 1024
  | .inr (.inr (.inr (.inr (.inl n)))) => n ≤ 4294967295
  | .inr (.inr (.inr (.inr (.inr _)))) => True
def heldS : Fs → Nat
  | .inl h => h.length
  | .inr (.inl (_, _, h)) => h.length
  | .inr (.inr (.inl (_, h))) => h.length
  | .inr (.inr (.inr (.inl h))) => h.length
  | .inr (.inr (.inr (.inr (.inl _)))) => 0
  | .inr (.inr (.inr (.inr (.inr _)))) => 0
def overS : Fs → Bool
  | .inl _ => false
  | .inr (.inl _) => false
  | .inr (.inr (.inl _)) => false
  | .inr (.inr (.inr (.inl _))) => false
  | .inr (.inr (.inr (.inr (.inl _)))) => false
  | .inr (.inr (.inr (.inr (.inr _)))) => true
theorem held_ok {σ : Fs} (h : okS σ) : heldS σ ≤ 2048 := by
  cases σ using Fs.each <;> simp [okS, heldS] at * <;> omega
def Few (l : List Td) : Prop := ∀ t ∈ l, t.c.keys.length ≤ 16
theorem said_ok {p : Cm × Int} (h : Fits p) : okS (saidBy p).2 ∧ Few (saidBy p).1 ∧ (saidBy p).1.length ≤ 1 := by
  unfold saidBy
  have hk := h.2
  rcases h.1 with ⟨h1, h2, h3⟩ | ⟨h1, h2, h3⟩ | ⟨h1, h2⟩
  · simp [h1, okS, Few, hk]; omega
  · simp only [h1]
    by_cases h0 : 0 ≤ p.2
    · simp [h0, okS, Few, hk]; omega
    · simp [h0, okS, Few, hk]
  · have h0 : ¬ 0 ≤ p.2 := by omega
    rcases h2 with h2 | h2 | h2 | h2 | h2 | h2 <;> simp [h2, h0, okS, Few, hk]
theorem step_ok {σ : Fs} (h : okS σ) (b : UInt8) : okS (stepB σ b).2 ∧ Few (stepB σ b).1 ∧ (stepB σ b).1.length ≤ 1 := by
  cases σ using Fs.each with
  | line l =>
    simp only [stepB]
    split
    · exact said_ok (fits_line l)
    · split
      · simp [okS, Few, bad]
      · simp [okS, Few] at *; omega
  | data c n l =>
    simp only [stepB]
    simp only [okS] at h
    repeat' split
    all_goals (simp [okS, Few, bad, h.1, h.2.1]; try omega)
  | tend c l =>
    simp only [stepB]
    simp only [okS] at h
    split <;> simp [okS, Few, h]
  | wrong l =>
    simp only [stepB]
    simp only [okS] at h
    split <;> simp [okS, Few, h, bad]
  | pass n =>
    simp only [stepB]
    simp only [okS] at h
    repeat' split
    all_goals (simp [okS, Few]; try omega)
  | over => simp [stepB, okS, Few]
theorem run_ok (x : List UInt8) : ∀ {σ : Fs}, okS σ → okS (runB σ x).2 ∧ Few (runB σ x).1 ∧ (runB σ x).1.length ≤ x.length := by
  induction x with
  | nil => intro σ h; exact ⟨h, by simp [runB, Few], by simp [runB]⟩
  | cons b t ih =>
    intro σ h
    obtain ⟨h1, h2, h3⟩ := step_ok h b
    obtain ⟨g1, g2, g3⟩ := ih h1
    rw [runB_cons]
    refine ⟨g1, ?_, ?_⟩
    · intro t' ht
      rcases List.mem_append.1 ht with ht | ht
      · exact h2 _ ht
      · exact g2 _ ht
    · simp; omega

/- The program's own states. -/
abbrev Pn := Bool × Bool × Bool
abbrev Pn.line : Pn := (false, false, false)
abbrev Pn.data : Pn := (false, false, true)
abbrev Pn.tail : Pn := (false, true, false)
abbrev Pn.tailEnd : Pn := (false, true, true)
abbrev Pn.wrong : Pn := (true, false, false)
abbrev Pn.passData : Pn := (true, false, true)
abbrev Pn.passLine : Pn := (true, true, false)
abbrev Pn.over : Pn := (true, true, true)
theorem Pn.each {motive : Pn → Prop} (line : motive .line) (data : motive .data) (tail : motive .tail) (tailEnd : motive .tailEnd) (wrong : motive .wrong) (passData : motive .passData) (passLine : motive .passLine) (over : motive .over) (p : Pn) : motive p := by
  rcases p with ⟨_ | _, _ | _, _ | _⟩
  · exact line
  · exact data
  · exact tail
  · exact tailEnd
  · exact wrong
  · exact passData
  · exact passLine
  · exact over
structure Fd where
  p : Pn
  h : List UInt8
  set : Cm
  left : Nat
def absF (f : Fd) : Fs := match f.p with
  | (false, false, false) => .line f.h
  | (false, false, true) => .data f.set f.left f.h
  | (false, true, false) => .data f.set 0 f.h
  | (false, true, true) => .tend f.set f.h
  | (true, false, false) => .wrong f.h
  | (true, false, true) => .pass f.left
  | (true, true, false) => .pass 0
  | (true, true, true) => .over
def bare : Pn → Bool
  | (false, false, false) => false
  | (false, false, true) => false
  | (false, true, false) => false
  | (false, true, true) => false
  | (true, false, false) => false
  | (true, false, true) => true
  | (true, true, false) => true
  | (true, true, true) => true
def okF (f : Fd) : Prop := okS (absF f) ∧ (bare f.p = true → f.h = []) ∧ f.left ≤ 4294967295
def phase : Pn → Nat
  | (false, false, false) => 0
  | (false, false, true) => 2
  | (false, true, false) => 1
  | (false, true, true) => 1
  | (true, false, false) => 0
  | (true, false, true) => 1
  | (true, true, false) => 0
  | (true, true, true) => 0
theorem phase_le (p : Pn) : phase p ≤ 2 := by cases p using Pn.each <;> simp [phase]
def tell (t : Td) : List Td := if t.c.kind = 0 then [] else [t]
theorem heldF {f : Fd} (h : okF f) : f.h.length = heldS (absF f) := by
  obtain ⟨p, hh, st, lf⟩ := f
  obtain ⟨-, h2, -⟩ := h
  cases p using Pn.each <;> simp [absF, heldS, bare] at * <;> simp [h2]
def StepOk (f : Fd) (s r : List UInt8) (t : Td) (f' : Fd) : Prop :=
  runB (absF f) s = (tell t ++ (runB (absF f') r).1, (runB (absF f') r).2) ∧ okF f' ∧ 3 * r.length + phase f'.p < 3 * s.length + phase f.p ∧ t.c.keys.length ≤ 16
def none' : Td := ⟨zc, mt⟩
theorem tell_none : tell none' = [] := rfl
theorem tell_bad (r : ByteArray) : tell ⟨bad r, mt⟩ = [⟨bad r, mt⟩] := rfl

def afterCmd (f : Fd) (p : Cm × Int) : Td × Fd :=
  if p.1.kind = 7 then (⟨p.1, mt⟩, { f with p := .over, h := [] })
  else if p.1.kind = 2 then (none', { f with p := .data, h := [], set := p.1, left := p.2.toNat })
  else if 0 ≤ p.2 then (⟨p.1, mt⟩, { f with p := .passData, h := [], left := p.2.toNat })
  else (⟨p.1, mt⟩, { f with p := .line, h := [] })
theorem after_ok {f : Fd} (hf : okF f) {p : Cm × Int} (h : Fits p) : saidBy p = (tell (afterCmd f p).1, absF (afterCmd f p).2) ∧ okF (afterCmd f p).2 ∧ (afterCmd f p).1.c.keys.length ≤ 16 := by
  obtain ⟨-, -, h3⟩ := hf
  have hs := said_ok h
  unfold saidBy at hs ⊢
  unfold afterCmd
  have hk := h.2
  have hk0 : p.1.kind ≠ 0 := by rcases h.1 with ⟨h1, -⟩ | ⟨h1, -⟩ | ⟨-, h1⟩ <;> omega
  by_cases h7 : p.1.kind = 7
  · simp only [h7, if_pos] at hs ⊢
    simp [tell, h7, absF, okF, okS, h3, hk]
  by_cases h2 : p.1.kind = 2
  · simp only [h2, if_pos, if_neg, h7] at hs ⊢
    have hb : p.2 ≤ 1024 := by rcases h.1 with ⟨h1, -, hb⟩ | ⟨h1, -⟩ | ⟨-, h1⟩ <;> omega
    refine ⟨by simp [tell_none, absF], ⟨by simpa [absF] using hs.1, by simp [bare], by simp; omega⟩, by simp [none', zc]⟩
  by_cases h0 : 0 ≤ p.2
  · simp only [h0, if_pos, if_neg, h7, h2] at hs ⊢
    have hb : p.2 ≤ 4294967295 := by rcases h.1 with ⟨h1, -⟩ | ⟨h1, -, hb⟩ | ⟨h1, -⟩ <;> omega
    refine ⟨by simp [tell, hk0, absF], ⟨by simpa [absF] using hs.1, by simp, by simp; omega⟩, hk⟩
  · simp only [if_neg, h7, h2, h0] at hs ⊢
    refine ⟨by simp [tell, hk0, absF], ⟨by simp [absF, okS], by simp [bare], h3⟩, hk⟩

/- What each of the program's steps comes to. -/
theorem so_line_end {f : Fd} (hf : okF f) (hp : f.p = .line) {x r : List UInt8} (hx : (10 : UInt8) ∉ x) (hl : f.h.length + x.length ≤ 2048) : StepOk f (x ++ 10 :: r) r (afterCmd f (lineC (f.h ++ x))).1 (afterCmd f (lineC (f.h ++ x))).2 := by
  obtain ⟨h1, h2, h3⟩ := after_ok hf (fits_line (f.h ++ x))
  refine ⟨?_, h2, ?_, h3⟩
  · rw [show absF f = .line f.h from by simp [absF, hp], run_line_end x f.h r hx hl, h1]
  · have := phase_le (afterCmd f (lineC (f.h ++ x))).2.p
    simp; omega
theorem so_line_long {f : Fd} (hf : okF f) (hp : f.p = .line) {x r : List UInt8} {b : UInt8} (hx : (10 : UInt8) ∉ x) (hb : b ≠ 10) (hl : f.h.length + x.length = 2048) : StepOk f (x ++ b :: r) r ⟨bad rLong, mt⟩ { f with p := .passLine, h := [] } := by
  refine ⟨?_, ⟨by simp [absF, okS], by simp, hf.2.2⟩, by simp [phase, hp]; omega, by simp [bad]⟩
  rw [show absF f = .line f.h from by simp [absF, hp], run_line_long x f.h r b hx hb hl]
  rfl
theorem so_line_more {f : Fd} (hf : okF f) (hp : f.p = .line) {s : List UInt8} (hs : s ≠ []) (hx : (10 : UInt8) ∉ s) (hl : f.h.length + s.length ≤ 2048) : StepOk f s [] none' { f with h := f.h ++ s } := by
  have hn : 0 < s.length := List.length_pos_iff.2 hs
  refine ⟨?_, ⟨by simpa [absF, hp, okS] using hl, by simp [hp, bare], hf.2.2⟩, by simp [phase, hp]; omega, by simp [none', zc]⟩
  rw [show absF f = .line f.h from by simp [absF, hp], run_line s f.h hx hl]
  simp [runB, tell_none, absF, hp]
def dataTo (f : Fd) (n : Nat) : Pn := if f.left - n = 0 then .tail else .data
theorem so_data {f : Fd} (hf : okF f) (hp : f.p = .data) {x r : List UInt8} (hs : x ++ r ≠ []) (hx : x.length = min f.left (x ++ r).length) : StepOk f (x ++ r) r none' { f with p := dataTo f x.length, h := f.h ++ x, left := f.left - x.length } := by
  have hn : 0 < (x ++ r).length := List.length_pos_iff.2 hs
  obtain ⟨h1, -, h3⟩ := hf
  simp only [absF, hp, okS] at h1
  have hA : absF { f with p := dataTo f x.length, h := f.h ++ x, left := f.left - x.length } = .data f.set (f.left - x.length) (f.h ++ x) := by
    unfold dataTo
    by_cases h0 : f.left - x.length = 0
    · simp [h0, absF]
    · simp [h0, absF]
  refine ⟨?_, ⟨?_, ?_, by simp; omega⟩, ?_, by simp [none', zc]⟩
  · rw [hA, show absF f = .data f.set f.left f.h from by simp [absF, hp], runB_quiet (run_data x f.set f.left f.h (by omega))]
    simp [tell_none]
  · rw [hA]; exact ⟨h1.1, h1.2.1, by simp; omega⟩
  · unfold dataTo; split <;> simp [bare]
  · rw [hp]
    show 3 * r.length + phase (dataTo f x.length) < 3 * (x ++ r).length + 2
    simp only [List.length_append] at hn hx ⊢
    by_cases h0 : x.length = 0
    · have : f.left - x.length = 0 := by omega
      simp [dataTo, this, phase]; omega
    · have := phase_le (dataTo f x.length); omega
theorem so_tail_cr {f : Fd} (hf : okF f) (hp : f.p = .tail) {r : List UInt8} : StepOk f (13 :: r) r none' { f with p := .tailEnd } := by
  obtain ⟨h1, -, h3⟩ := hf
  simp only [absF, hp, okS] at h1
  refine ⟨?_, ⟨by simp [absF, okS]; omega, by simp [bare], h3⟩, by simp [phase, hp], by simp [none', zc]⟩
  simp [absF, hp, runB_cons, stepB, tell_none]
theorem so_tail_wrong {f : Fd} (hf : okF f) (hp : f.p = .tail) {b : UInt8} {r : List UInt8} (hb : b ≠ 13) : StepOk f (b :: r) (b :: r) none' { f with p := .wrong } := by
  obtain ⟨h1, -, h3⟩ := hf
  simp only [absF, hp, okS] at h1
  refine ⟨?_, ⟨by simp [absF, okS]; omega, by simp [bare], h3⟩, by simp [phase, hp], by simp [none', zc]⟩
  rw [show absF f = .data f.set 0 f.h from by simp [absF, hp], run_tail_wrong _ _ _ _ hb]
  simp [tell_none, absF]
theorem so_end {f : Fd} (hf : okF f) (hp : f.p = .tailEnd) {r : List UInt8} : StepOk f (10 :: r) r ⟨f.set, ba f.h⟩ { f with p := .line, h := [], set := zc } := by
  obtain ⟨h1, -, h3⟩ := hf
  simp only [absF, hp, okS] at h1
  refine ⟨?_, ⟨by simp [absF, okS], by simp [bare], h3⟩, by simp [phase, hp]; omega, h1.2.1⟩
  have hk : f.set.kind ≠ 0 := by omega
  simp [absF, hp, runB_cons, stepB, tell, hk]
theorem so_end_wrong {f : Fd} (hf : okF f) (hp : f.p = .tailEnd) {b : UInt8} {r : List UInt8} (hb : b ≠ 10) : StepOk f (b :: r) (b :: r) none' { f with p := .wrong } := by
  obtain ⟨h1, -, h3⟩ := hf
  simp only [absF, hp, okS] at h1
  refine ⟨?_, ⟨by simp [absF, okS]; omega, by simp [bare], h3⟩, by simp [phase, hp], by simp [none', zc]⟩
  rw [show absF f = .tend f.set f.h from by simp [absF, hp], run_tend_wrong _ _ _ _ hb]
  simp [tell_none, absF]
theorem so_wrong_more {f : Fd} (hf : okF f) (hp : f.p = .wrong) {s : List UInt8} (hs : s ≠ []) (hx : (10 : UInt8) ∉ s) : StepOk f s [] none' f := by
  have hn : 0 < s.length := List.length_pos_iff.2 hs
  refine ⟨?_, hf, by simp; omega, by simp [none', zc]⟩
  rw [show absF f = .wrong f.h from by simp [absF, hp], run_wrong _ _ hx]
  simp [runB, tell_none]
theorem so_wrong_end {f : Fd} (hf : okF f) (hp : f.p = .wrong) {x r : List UInt8} (hx : (10 : UInt8) ∉ x) : StepOk f (x ++ 10 :: r) r ⟨bad rChunk, mt⟩ { f with p := .line, h := [], set := zc } := by
  refine ⟨?_, ⟨by simp [absF, okS], by simp [bare], hf.2.2⟩, by simp [phase, hp]; omega, by simp [bad]⟩
  rw [show absF f = .wrong f.h from by simp [absF, hp], run_wrong_end _ _ _ hx]
  rfl
def passTo (f : Fd) (n : Nat) : Pn := if f.left - n = 0 then .passLine else .passData
theorem so_pass {f : Fd} (hf : okF f) (hp : f.p = .passData) {x r : List UInt8} (hs : x ++ r ≠ []) (hx : x.length = min f.left (x ++ r).length) : StepOk f (x ++ r) r none' { f with p := passTo f x.length, left := f.left - x.length } := by
  have hn : 0 < (x ++ r).length := List.length_pos_iff.2 hs
  obtain ⟨h1, h2, h3⟩ := hf
  have hh := h2 (by simp [hp, bare])
  have hA : absF { f with p := passTo f x.length, left := f.left - x.length } = .pass (f.left - x.length) := by
    unfold passTo
    by_cases h0 : f.left - x.length = 0
    · simp [h0, absF]
    · simp [h0, absF]
  refine ⟨?_, ⟨?_, fun _ => hh, by simp; omega⟩, ?_, by simp [none', zc]⟩
  · rw [hA, show absF f = .pass f.left from by simp [absF, hp], runB_quiet (run_pass x f.left (by omega))]
    simp [tell_none]
  · rw [hA]; simp [okS]; omega
  · rw [hp]
    show 3 * r.length + phase (passTo f x.length) < 3 * (x ++ r).length + 1
    simp only [List.length_append] at hn hx ⊢
    by_cases h0 : x.length = 0
    · have : f.left - x.length = 0 := by omega
      simp [passTo, this, phase]; omega
    · have := phase_le (passTo f x.length); omega
theorem so_rest_more {f : Fd} (hf : okF f) (hp : f.p = .passLine) {s : List UInt8} (hs : s ≠ []) (hx : (10 : UInt8) ∉ s) : StepOk f s [] none' f := by
  have hn : 0 < s.length := List.length_pos_iff.2 hs
  refine ⟨?_, hf, by simp; omega, by simp [none', zc]⟩
  rw [show absF f = .pass 0 from by simp [absF, hp], run_rest _ hx]
  simp [runB, tell_none]
theorem so_rest_end {f : Fd} (hf : okF f) (hp : f.p = .passLine) {x r : List UInt8} (hx : (10 : UInt8) ∉ x) : StepOk f (x ++ 10 :: r) r none' { f with p := .line } := by
  have hh := hf.2.1 (by simp [hp, bare])
  refine ⟨?_, ⟨by simp [absF, okS, hh], by simp [bare], hf.2.2⟩, by simp [phase, hp]; omega, by simp [none', zc]⟩
  rw [show absF f = .pass 0 from by simp [absF, hp], run_rest_end _ _ hx]
  simp [tell_none, absF, hh]
end Go.Proofs.Ytjlojkcdglocbaa
