/- What the reference's Stream does at a line, and at its data: the plain machine's words. -/
import Derived.Test.YtjlojkcdglocbaaFeedTwo
namespace Go.Proofs.Ytjlojkcdglocbaa
set_option linter.unusedVariables false
set_option linter.unusedSimpArgs false

def mid (l : List UInt8) (i e : Nat) : List UInt8 := (l.drop i).take (e - i)
theorem take_mid (l : List UInt8) {i e : Nat} (h : i ≤ e) : l.take e = l.take i ++ mid l i e := by
  unfold mid
  conv => lhs; rw [show e = i + (e - i) by omega, List.take_add]
theorem mid_length (l : List UInt8) {i e : Nat} (h : i ≤ e) (h2 : e ≤ l.length) : (mid l i e).length = e - i := by
  unfold mid
  simp
  omega
/- The place of the next line feed. -/
def FE (l : List UInt8) (i e : Nat) : Prop := i ≤ e ∧ e ≤ l.length ∧ (10 : UInt8) ∉ mid l i e ∧ (e < l.length → l.take (e + 1) = l.take e ++ [10])
def Stand (l : List UInt8) (i : Nat) (ts : List Td) : Prop := i ≤ l.length ∧ runB (.line []) (l.take i) = (ts, .line [])
def Done (l : List UInt8) (ts : List Td) (h : Nat) (o : Bool) : Prop := (runB (.line []) l).1 = ts ∧ heldS (runB (.line []) l).2 = h ∧ overS (runB (.line []) l).2 = o
theorem done_of {l : List UInt8} {ts : List Td} {σ : Fs} {h : Nat} {o : Bool} (e : runB (.line []) l = (ts, σ)) (h1 : heldS σ = h) (h2 : overS σ = o) : Done l ts h o := by
  unfold Done
  rw [e]
  exact ⟨rfl, h1, h2⟩
theorem stand_0 (l : List UInt8) : Stand l 0 [] := ⟨Nat.zero_le _, by simp [runB]⟩
theorem stand_done {l : List UInt8} {i : Nat} {ts : List Td} (h : Stand l i ts) (hi : i = l.length) : Done l ts 0 false := by
  have := h.2
  rw [hi, List.take_length] at this
  exact done_of this rfl rfl
def after (l : List UInt8) (i : Nat) (ts : List Td) (σ : Fs) : Prop := runB (.line []) (l.take i) = (ts, σ)
theorem after_mid {l : List UInt8} {i e : Nat} {ts : List Td} {σ : Fs} (h : after l i ts σ) (hie : i ≤ e) : runB (.line []) (l.take e) = (ts ++ (runB σ (mid l i e)).1, (runB σ (mid l i e)).2) := by
  unfold after at h
  rw [take_mid l hie, runB_append, h]
theorem after_lf {l : List UInt8} {e : Nat} {ts : List Td} {σ : Fs} (h : after l e ts σ) (hl : l.take (e + 1) = l.take e ++ [10]) : after l (e + 1) (ts ++ (stepB σ 10).1) (stepB σ 10).2 := by
  unfold after at *
  rw [hl, runB_append, h]
  simp [runB_cons, runB_nil]
theorem all_take {l : List UInt8} {e : Nat} (h : e = l.length) : l.take e = l := by rw [h, List.take_length]
theorem long_run (L : List UInt8) (h10 : (10 : UInt8) ∉ L) (hl : 2048 < L.length) : runB (.line []) L = ([⟨bad rLong, mt⟩], .pass 0) := by
  have hne : L.drop 2048 ≠ [] := by intro e; have := congrArg List.length e; simp at this; omega
  obtain ⟨b, r, hbr⟩ := List.exists_cons_of_ne_nil hne
  obtain ⟨x, hL, hxl⟩ : ∃ x, L = x ++ b :: r ∧ x.length = 2048 := ⟨L.take 2048, by rw [← hbr, List.take_append_drop], by simp; omega⟩
  subst hL
  have hx : (10 : UInt8) ∉ x := fun e => h10 (by simp [e])
  have hb : b ≠ 10 := fun e => h10 (by simp [e])
  have hrm : (10 : UInt8) ∉ r := fun e => h10 (by simp [e])
  rw [run_line_long x [] r b hx hb (by simpa using hxl), run_rest r hrm]
theorem th_long {l : List UInt8} {i e : Nat} {ts : List Td} (hs : Stand l i ts) (hf : FE l i e) (hb : 2048 < e - i) : (e < l.length → Stand l (e + 1) (ts ++ [⟨bad rLong, mt⟩])) ∧ (e = l.length → Done l (ts ++ [⟨bad rLong, mt⟩]) 0 false) := by
  obtain ⟨h1, h2, h3, h4⟩ := hf
  have hr := after_mid (σ := .line []) hs.2 h1
  rw [long_run _ h3 (by rw [mid_length l h1 h2]; exact hb)] at hr
  constructor
  · intro he
    refine ⟨by omega, ?_⟩
    have := after_lf hr (h4 he)
    unfold after at this
    rw [this]
    simp [stepB]
  · intro he
    rw [all_take he] at hr
    exact done_of hr rfl rfl
theorem th_end {l : List UInt8} {i e : Nat} {ts : List Td} (hs : Stand l i ts) (hf : FE l i e) (hb : e - i ≤ 2048) (he : e = l.length) : Done l ts (e - i) false := by
  obtain ⟨h1, h2, h3, h4⟩ := hf
  have hr := after_mid (σ := .line []) hs.2 h1
  rw [run_line _ [] h3 (by rw [mid_length l h1 h2]; simpa using hb), all_take he] at hr
  simp at hr
  exact done_of hr (by simp [heldS, mid_length l h1 h2]) rfl
theorem th_line {l : List UInt8} {i e : Nat} {ts : List Td} (hs : Stand l i ts) (hf : FE l i e) (hb : e - i ≤ 2048) (he : e < l.length) : after l (e + 1) (ts ++ (saidBy (lineC (mid l i e))).1) (saidBy (lineC (mid l i e))).2 := by
  obtain ⟨h1, h2, h3, h4⟩ := hf
  have hr := after_mid (σ := .line []) hs.2 h1
  rw [run_line _ [] h3 (by rw [mid_length l h1 h2]; simpa using hb)] at hr
  have := after_lf hr (h4 he)
  simpa [stepB] using this
/- What the line says. -/
theorem said_quit {c : Cm} {d : Int} (h7 : c.kind = 7) : saidBy (c, d) = ([⟨c, mt⟩], .over) := by simp [saidBy, h7]
theorem said_plain {c : Cm} {d : Int} (hf : Fits (c, d)) (h7 : c.kind ≠ 7) (hd : d < 0) : saidBy (c, d) = ([⟨c, mt⟩], .line []) := by
  have h2 : c.kind ≠ 2 := by
    rcases hf.1 with ⟨-, h, -⟩ | ⟨h, -⟩ | ⟨-, h⟩ <;> simp only at h <;> omega
  simp only [saidBy]
  rw [if_neg h7, if_neg h2, if_neg (by omega)]
theorem said_bad {c : Cm} {n : Nat} (h8 : c.kind = 8) : saidBy (c, (n : Int)) = ([⟨c, mt⟩], .pass n) := by
  simp only [saidBy]
  rw [if_neg (by omega), if_neg (by omega), if_pos (by omega)]
  simp
theorem kind_set {c : Cm} {n : Nat} (hf : Fits (c, (n : Int))) (h8 : c.kind ≠ 8) : c.kind = 2 := by
  rcases hf.1 with ⟨h, -⟩ | ⟨h, -⟩ | ⟨h, -⟩ <;> simp only at h <;> omega
theorem said_set {c : Cm} {n : Nat} (h2 : c.kind = 2) : saidBy (c, (n : Int)) = ([], .data c n []) := by
  simp only [saidBy]
  rw [if_neg (by omega), if_pos h2]
  simp
theorem th_quit {l : List UInt8} {i : Nat} {ts : List Td} (h : after l i ts .over) (hi : i ≤ l.length) : Done l ts 0 true := by
  have hr := after_mid h hi
  rw [runB_over, all_take rfl] at hr
  simp at hr
  exact done_of hr rfl rfl
theorem th_pass_short {l : List UInt8} {i n : Nat} {ts : List Td} (h : after l i ts (.pass n)) (hi : i ≤ l.length) (hn : l.length - i < n) : Done l ts 0 false := by
  have hr := after_mid h hi
  rw [run_pass _ n (by rw [mid_length l hi (Nat.le_refl _)]; omega), all_take rfl] at hr
  simp at hr
  exact done_of hr rfl rfl
theorem th_pass {l : List UInt8} {i n : Nat} {ts : List Td} (h : after l i ts (.pass n)) (hn : i + n ≤ l.length) : after l (i + n) ts (.pass 0) := by
  have hr := after_mid h (show i ≤ i + n by omega)
  rw [run_pass _ n (by rw [mid_length l (by omega) hn]; omega), mid_length l (by omega) hn] at hr
  unfold after
  simpa using hr
theorem th_pass_end {l : List UInt8} {i e : Nat} {ts : List Td} (h : after l i ts (.pass 0)) (hf : FE l i e) : (e = l.length → Done l ts 0 false) ∧ (e < l.length → Stand l (e + 1) ts) := by
  obtain ⟨h1, h2, h3, h4⟩ := hf
  have hr := after_mid h h1
  rw [run_rest _ h3] at hr
  simp only [List.append_nil] at hr
  constructor
  · intro he
    rw [all_take he] at hr
    exact done_of hr rfl rfl
  · intro he
    have := after_lf hr (h4 he)
    unfold after at this
    refine ⟨by omega, ?_⟩
    rw [this]
    simp [stepB]
theorem th_data_short {l : List UInt8} {i n : Nat} {ts : List Td} {c : Cm} (h : after l i ts (.data c n [])) (hi : i ≤ l.length) (hn : l.length - i < n) : Done l ts (l.length - i) false := by
  have hr := after_mid h hi
  rw [run_data _ c n [] (by rw [mid_length l hi (Nat.le_refl _)]; omega), all_take rfl] at hr
  simp at hr
  exact done_of hr (by simp [heldS, mid_length l hi (Nat.le_refl _)]) rfl
theorem th_data {l : List UInt8} {i n : Nat} {ts : List Td} {c : Cm} (h : after l i ts (.data c n [])) (hn : i + n ≤ l.length) : after l (i + n) ts (.data c 0 (mid l i (i + n))) := by
  have hr := after_mid h (show i ≤ i + n by omega)
  rw [run_data _ c n [] (by rw [mid_length l (by omega) hn]; omega), mid_length l (by omega) hn] at hr
  unfold after
  simpa using hr
theorem tail_held (M h : List UInt8) (c : Cm) (h10 : (10 : UInt8) ∉ M) : (runB (.data c 0 h) M).1 = [] ∧ heldS (runB (.data c 0 h) M).2 = h.length ∧ overS (runB (.data c 0 h) M).2 = false := by
  cases M with
  | nil => simp [runB, heldS, overS]
  | cons b t =>
    have hb : b ≠ 10 := fun e => h10 (by simp [e])
    have ht : (10 : UInt8) ∉ t := fun e => h10 (by simp [e])
    by_cases h13 : b = 13
    · subst h13
      rw [runB_cons]
      simp only [stepB, if_pos]
      cases t with
      | nil => simp [runB, heldS, overS]
      | cons b2 t2 =>
        have hb2 : b2 ≠ 10 := fun e => ht (by simp [e])
        rw [run_tend_wrong _ _ _ _ hb2, run_wrong _ _ ht]
        simp [heldS, overS]
    · rw [run_tail_wrong _ _ _ _ h13, run_wrong _ _ h10]
      simp [heldS, overS]
theorem tail_lf (M h : List UInt8) (c : Cm) (h10 : (10 : UInt8) ∉ M) : runB (.data c 0 h) (M ++ [10]) = (if M = [13] then [⟨c, ba h⟩] else [⟨bad rChunk, mt⟩], .line []) := by
  cases M with
  | nil => simp [runB_cons, runB_nil, stepB]
  | cons b t =>
    have hb : b ≠ 10 := fun e => h10 (by simp [e])
    have ht : (10 : UInt8) ∉ t := fun e => h10 (by simp [e])
    by_cases h13 : b = 13
    · subst h13
      cases t with
      | nil => simp [runB_cons, runB_nil, stepB]
      | cons b2 t2 =>
        have hb2 : b2 ≠ 10 := fun e => ht (by simp [e])
        rw [List.cons_append, runB_cons]
        simp only [stepB, if_pos, List.cons_append]
        rw [run_tend_wrong _ _ _ _ hb2, show b2 :: (t2 ++ [10]) = (b2 :: t2) ++ 10 :: [] from rfl, run_wrong_end _ _ _ ht]
        simp [runB_nil]
    · rw [List.cons_append, run_tail_wrong _ _ _ _ h13, show b :: (t ++ [10]) = (b :: t) ++ 10 :: [] from rfl, run_wrong_end _ _ _ h10]
      simp [runB_nil, h13]
theorem th_data_end {l : List UInt8} {i e : Nat} {ts : List Td} {c : Cm} {h : List UInt8} (hs : after l i ts (.data c 0 h)) (hf : FE l i e) : (e = l.length → Done l ts h.length false) ∧ (e < l.length → mid l i e = [13] → Stand l (e + 1) (ts ++ [⟨c, ba h⟩])) ∧ (e < l.length → mid l i e ≠ [13] → Stand l (e + 1) (ts ++ [⟨bad rChunk, mt⟩])) := by
  obtain ⟨h1, h2, h3, h4⟩ := hf
  have key : e < l.length → runB (.line []) (l.take (e + 1)) = (ts ++ (if mid l i e = [13] then [⟨c, ba h⟩] else [⟨bad rChunk, mt⟩]), .line []) := fun he => by
    rw [h4 he, take_mid l h1, List.append_assoc, runB_append]
    unfold after at hs
    rw [hs, tail_lf _ _ _ h3]
  refine ⟨fun he => ?_, fun he hm => ⟨by omega, ?_⟩, fun he hm => ⟨by omega, ?_⟩⟩
  · have hr := after_mid hs h1
    obtain ⟨a1, a2, a3⟩ := tail_held (mid l i e) h c h3
    rw [all_take he, a1, List.append_nil] at hr
    exact done_of hr a2 a3
  · rw [key he, if_pos hm]
  · rw [key he, if_neg hm]
theorem mid_one {l : List UInt8} {i e : Nat} (h1 : i ≤ e) (h2 : e ≤ l.length) : mid l i e = [13] ↔ e = i + 1 ∧ ∃ h : i < l.length, l[i] = 13 := by
  constructor
  · intro h
    have hl := mid_length l h1 h2
    rw [h] at hl
    simp at hl
    have he : e = i + 1 := by omega
    subst he
    refine ⟨rfl, by omega, ?_⟩
    have : l.take (i + 1) = l.take i ++ [l[i]] := List.take_succ_eq_append_getElem (by omega)
    rw [take_mid l h1, h] at this
    simpa using (List.append_cancel_left this).symm
  · rintro ⟨rfl, h, he⟩
    have : l.take (i + 1) = l.take i ++ [l[i]] := List.take_succ_eq_append_getElem h
    rw [take_mid l h1, he] at this
    exact List.append_cancel_left this
end Go.Proofs.Ytjlojkcdglocbaa
