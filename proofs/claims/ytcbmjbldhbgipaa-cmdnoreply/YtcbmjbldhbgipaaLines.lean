/- The words of the lines that the statements lay, and the commands that these say. No condition but those that are stated. -/
import Derived.Test.YtcbmjbldhbgipaaDigits
namespace Go.Proofs.Ytcbmjbldhbgipaa
open Go.ChangeShapes Go.WideShapes Go.ChangeAt Go.RowKit
set_option linter.unusedVariables false
set_option linter.unusedSimpArgs false

/- One word: no blank, not empty. -/
def Wd (x : ByteArray) : Prop := x.data.toList ≠ [] ∧ ∀ b ∈ x.data.toList, b ≠ 32
theorem wd_key (k : ByteArray) (h : keyMay k = true) : Wd k := by
  unfold keyMay at h
  simp only [Bool.and_eq_true, decide_eq_true_eq, List.all_eq_true] at h
  refine ⟨fun h0 => ?_, fun b hb => ?_⟩
  · have : k.data.toList.length = k.size := (Lib.size_eq k).symm
    rw [h0] at this
    simp at this
    omega
  · have := h.2 b hb
    unfold good at this
    simp at this
    rintro rfl
    have h32 : (32 : UInt8).toNat = 32 := rfl
    omega
theorem wd_digs (n : Nat) : Wd (ba (digs n)) := by
  unfold Wd
  rw [ba_list]
  refine ⟨fun h0 => ?_, fun b hb => ?_⟩
  · have hex : ∃ k, 1 ≤ k ∧ n < 10 ^ k := ⟨n + 1, by omega, by
      have : n + 1 < 10 ^ (n + 1) := Nat.lt_pow_self (by omega)
      omega⟩
    obtain ⟨k, hk, hn⟩ := hex
    have := digs_len k n hk hn
    rw [h0] at this
    simp at this
  · have := digs_all n b hb
    rintro rfl
    have h32 : (32 : UInt8).toNat = 32 := rfl
    omega
theorem wd_digsI (z : Int) : Wd (ba (digsI z)) := by
  unfold digsI
  split
  · have := wd_digs (-z).toNat
    unfold Wd at *
    rw [ba_list] at *
    refine ⟨by simp, fun b hb => ?_⟩
    rcases List.mem_cons.1 hb with rfl | hb
    · decide
    · exact this.2 b hb
  · exact wd_digs _
theorem wordsL_wd (x : ByteArray) (h : Wd x) : wordsL x.data.toList = [x.data.toList] := wordsL_one _ h.1 h.2
theorem ba_self (x : ByteArray) : ba x.data.toList = x := by unfold ba; cases x; simp
/- Words with one blank between two. -/
def join : List ByteArray → List UInt8
  | [] => []
  | [x] => x.data.toList
  | x :: y :: l => x.data.toList ++ 32 :: join (y :: l)
theorem words_join : ∀ (l : List ByteArray), (∀ x ∈ l, Wd x) → (wordsL (join l)).map ba = l
  | [], _ => rfl
  | [x], h => by
    rw [join, wordsL_wd x (h x (by simp))]
    simp [ba_self]
  | x :: y :: l, h => by
    rw [join, wordsL_blank, wordsL_wd x (h x (by simp)), List.map_append, words_join (y :: l) (fun z hz => h z (List.mem_cons_of_mem _ hz))]
    simp [ba_self]
theorem words_of (s : ByteArray) (l : List ByteArray) (hs : s.data.toList = join l) (h : ∀ x ∈ l, Wd x) : words s = l := by
  unfold words
  rw [hs]
  exact words_join l h
theorem amt_digs (n : Nat) (h : n ≤ 4294967295) : amt (ba (digs n)) = some n := by
  unfold amt
  rw [ba_list, digs_num n (by omega)]
  simp [h]
theorem head_digs (n : Nat) : (digs n).head? ≠ some 45 := by
  intro h
  have hm := List.mem_of_mem_head? h
  have := digs_all n 45 hm
  have h45 : (45 : UInt8).toNat = 45 := rfl
  omega
theorem tim_digsI (z : Int) (h : -10000000000 < z ∧ z < 10000000000) : tim (ba (digsI z)) = some z := by
  unfold tim digsI
  rw [ba_list]
  by_cases hz : z < 0
  · rw [if_pos hz]
    simp only [List.head?_cons, if_true, List.tail_cons]
    rw [digs_num _ (by omega)]
    simp
    omega
  · rw [if_neg hz, if_neg (head_digs _), digs_num _ (by omega)]
    simp
    omega
theorem digsI_nat (n : Nat) : digsI (n : Int) = digs n := by
  unfold digsI
  rw [if_neg (by omega)]
  rfl
theorem wd_lit_set : Wd ⟨#[115, 101, 116]⟩ := by unfold Wd; decide +kernel
theorem wd_lit_delete : Wd ⟨#[100, 101, 108, 101, 116, 101]⟩ := by unfold Wd; decide +kernel
theorem wd_lit_touch : Wd ⟨#[116, 111, 117, 99, 104]⟩ := by unfold Wd; decide +kernel
theorem wd_lit_no : Wd wNo := by unfold Wd; decide +kernel
theorem wd_lit_0 : Wd ⟨#[48]⟩ := by unfold Wd; decide +kernel
/- A set of any parts. -/
theorem parse_set4 (k : ByteArray) (hk : keyMay k = true) (f b : Nat) (t : Int) (hf : f ≤ 4294967295) (hb : b ≤ 4294967295) (ht : -10000000000 < t ∧ t < 10000000000) (q : Bool) :
    parseC (⟨#[115, 101, 116]⟩ :: k :: ba (digs f) :: ba (digsI t) :: ba (digs b) :: (if q then [wNo] else [])) = (if 1024 < b then bad rBig else ⟨2, [k], f, t, q, mt⟩, (b : Int)) := by
  rw [parseC_cons, if_neg (by decide), if_pos rfl]
  have hd : dat (k :: ba (digs f) :: ba (digsI t) :: ba (digs b) :: (if q then [wNo] else [])) = (b : Int) := by
    unfold dat
    rw [if_pos (by cases q <;> simp)]
    show (match amt (ba (digs b)) with | some n => (n : Int) | none => -1) = _
    rw [amt_digs b hb]
  rw [hd]
  have hq : quietW (k :: ba (digs f) :: ba (digsI t) :: ba (digs b) :: (if q then [wNo] else [])) 4 = q := by
    cases q
    · rfl
    · unfold quietW at'
      simp
  have ho : (decide ((k :: ba (digs f) :: ba (digsI t) :: ba (digs b) :: (if q then [wNo] else [])).length = 4) || quietW (k :: ba (digs f) :: ba (digsI t) :: ba (digs b) :: (if q then [wNo] else [])) 4) = true := by
    rw [hq]
    cases q <;> rfl
  rw [setC_own _ ho hk, hd, hq]
  show ((match amt (ba (digs f)), tim (ba (digsI t)) with
     | some f, some t => if (b : Int) = -1 then bad rFmt else if 1024 < (b : Int) then bad rBig else ⟨2, [k], f, t, q, mt⟩
     | _, _ => bad rFmt), (b : Int)) = _
  rw [amt_digs f hf, tim_digsI t ht]
  simp only
  rw [if_neg (by omega)]
  by_cases h : 1024 < b
  · rw [if_pos h, if_pos (by omega)]
  · rw [if_neg h, if_neg (by omega)]
theorem parse_del1 (k : ByteArray) (hk : keyMay k = true) (q : Bool) : parseC (⟨#[100, 101, 108, 101, 116, 101]⟩ :: k :: (if q then [wNo] else [])) = (⟨3, [k], 0, 0, q, mt⟩, -1) := by
  rw [parseC_cons, if_neg (by decide), if_neg (by decide), if_pos rfl]
  have hq : quietW (k :: (if q then [wNo] else [])) 1 = q := by
    cases q
    · rfl
    · unfold quietW at'
      simp
  unfold delC
  rw [hq]
  have ho : ((decide ((k :: (if q then [wNo] else [])).length = 1) || q) && keyMay (at' (k :: (if q then [wNo] else [])) 0)) = true := by
    show ((decide ((k :: (if q then [wNo] else [])).length = 1) || q) && keyMay k) = true
    rw [hk]
    cases q <;> rfl
  rw [if_pos ho]
  rfl
theorem parse_tou2 (k : ByteArray) (hk : keyMay k = true) (t : Int) (ht : -10000000000 < t ∧ t < 10000000000) (q : Bool) : parseC (⟨#[116, 111, 117, 99, 104]⟩ :: k :: ba (digsI t) :: (if q then [wNo] else [])) = (⟨4, [k], 0, t, q, mt⟩, -1) := by
  rw [parseC_cons, if_neg (by decide), if_neg (by decide), if_neg (by decide), if_pos rfl]
  have hq : quietW (k :: ba (digsI t) :: (if q then [wNo] else [])) 2 = q := by
    cases q
    · rfl
    · unfold quietW at'
      simp
  unfold touC
  rw [hq]
  have ho : ((decide ((k :: ba (digsI t) :: (if q then [wNo] else [])).length = 2) || q) && keyMay (at' (k :: ba (digsI t) :: (if q then [wNo] else [])) 0)) = true := by
    show ((decide ((k :: ba (digsI t) :: (if q then [wNo] else [])).length = 2) || q) && keyMay k) = true
    rw [hk]
    cases q <;> rfl
  rw [if_pos ho]
  show ((match tim (ba (digsI t)) with | some t => (⟨4, [k], 0, t, q, mt⟩ : Cm) | none => bad rFmt), (-1 : Int)) = _
  rw [tim_digsI t ht]
end Go.Proofs.Ytcbmjbldhbgipaa
