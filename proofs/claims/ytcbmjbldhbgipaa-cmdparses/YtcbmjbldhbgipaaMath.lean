/- The plain mathematics of a client's line: its words, its numbers, the command that it says. No condition. -/
import Derived.Test.YtcbmjbldhbgipaaKeys
import Derived.Lib.FieldsP
import Derived.Lib.TrimUEq
namespace Go.Proofs.Ytcbmjbldhbgipaa
set_option linter.unusedVariables false

/- Words: runs of bytes other than 32. -/
def spl : List UInt8 → List UInt8 → List (List UInt8)
  | cur, [] => if cur.isEmpty then [] else [cur]
  | cur, b :: t => if b = 32 then (if cur.isEmpty then spl [] t else cur :: spl [] t) else spl (cur ++ [b]) t
def ba (l : List UInt8) : ByteArray := ⟨l.toArray⟩
def wordsL (l : List UInt8) : List (List UInt8) := spl [] l
def words (s : ByteArray) : List ByteArray := (wordsL s.data.toList).map ba
theorem spl_skip : ∀ (xs cur t : List UInt8), (∀ b ∈ xs, b ≠ 32) → spl cur (xs ++ t) = spl (cur ++ xs) t
  | [], cur, t, _ => by simp
  | b :: xs, cur, t, h => by
    have hb : b ≠ 32 := h b (List.mem_cons_self)
    have ih := spl_skip xs (cur ++ [b]) t (fun c hc => h c (List.mem_cons_of_mem _ hc))
    rw [List.cons_append, spl, if_neg hb, ih, List.append_assoc, List.singleton_append]
theorem spl_blank : ∀ (x cur y : List UInt8), spl cur (x ++ 32 :: y) = spl cur x ++ spl [] y
  | [], cur, y => by
    rw [List.nil_append, spl, spl, if_pos rfl]
    cases cur <;> simp
  | b :: x, cur, y => by
    rw [List.cons_append, spl, spl]
    by_cases hb : b = 32
    · rw [if_pos hb, if_pos hb]
      cases cur with
      | nil => simp only [List.isEmpty_nil, if_true]; exact spl_blank x [] y
      | cons c cs => simp only [List.isEmpty_cons, Bool.false_eq_true, if_false, List.cons_append]; rw [spl_blank x [] y]
    · rw [if_neg hb, if_neg hb]
      exact spl_blank x _ y
theorem wordsL_blank (x y : List UInt8) : wordsL (x ++ 32 :: y) = wordsL x ++ wordsL y := spl_blank x [] y
theorem wordsL_one (x : List UInt8) (h0 : x ≠ []) (h : ∀ b ∈ x, b ≠ 32) : wordsL x = [x] := by
  have := spl_skip x [] [] h
  rw [List.append_nil] at this
  unfold wordsL
  rw [this, List.nil_append, spl]
  cases x with
  | nil => exact absurd rfl h0
  | cons c cs => rfl
/- A text behind which words begin anew. -/
def Cl (a : List UInt8) : Prop := ∀ y, wordsL (a ++ y) = wordsL a ++ wordsL y
theorem cl_nil : Cl [] := fun y => by simp [wordsL, spl]
theorem cl_blank (x : List UInt8) : Cl (x ++ [32]) := fun y => by
  rw [List.append_assoc, List.singleton_append, wordsL_blank, wordsL_blank x []]
  simp [wordsL, spl]
theorem cl_more {a x : List UInt8} (h : Cl a) (hx : Cl x) : Cl (a ++ x) := fun y => by
  rw [List.append_assoc, h, h x, hx, List.append_assoc]
theorem wordsL_word (x : List UInt8) : wordsL (x ++ [32]) = wordsL x := by
  rw [wordsL_blank x []]
  simp [wordsL, spl]
theorem cl_repl (k : Nat) : Cl (List.replicate k 32) := by
  cases k with
  | zero => exact cl_nil
  | succ k => rw [List.replicate_succ']; exact cl_blank _
theorem wordsL_repl : ∀ k : Nat, wordsL (List.replicate k 32) = []
  | 0 => rfl
  | k + 1 => by rw [List.replicate_succ', wordsL_word, wordsL_repl k]

section
open Go.Lib
theorem blank_is (n b0 b1 b2 b3 : Nat) (h0 : b0 < 256) (h : (decodeN n b0 b1 b2 b3).1 = 32) : b0 = 32 ∧ (decodeN n b0 b1 b2 b3).2 = 1 := by
  unfold decodeN at *
  repeat' split at h
  all_goals (simp only at h; first | (exfalso; omega) | skip)
  all_goals (rename_i hc; rw [if_pos hc]; exact ⟨h, rfl⟩)
theorem blank_not (n b0 b1 b2 b3 : Nat) (h : (decodeN n b0 b1 b2 b3).1 ≠ 32) :
    b0 ≠ 32 ∧ (1 < (decodeN n b0 b1 b2 b3).2 → b1 ≠ 32) ∧ (2 < (decodeN n b0 b1 b2 b3).2 → b2 ≠ 32) ∧ (3 < (decodeN n b0 b1 b2 b3).2 → b3 ≠ 32) ∧ (decodeN n b0 b1 b2 b3).2 ≤ 4 := by
  unfold decodeN at *
  repeat' split
  all_goals (simp only at h ⊢; try simp_all only [if_true, if_false])
  all_goals (refine ⟨?_, ?_, ?_, ?_, ?_⟩ <;> omega)
theorem isB_iff (r : Nat) : (r == 32) = true ↔ r = 32 := by simp
def isB (r : Nat) : Bool := r == 32
theorem drop_cons (l : List UInt8) (p : Nat) (h : p < l.length) : l.drop p = l.getD p 0 :: l.drop (p + 1) := by
  rw [List.drop_eq_getElem_cons h]
  simp [List.getD, List.getElem?_eq_getElem h]
theorem spans_words (s : ByteArray) : ∀ (f pos : Nat) (st : Option Nat) (acc : List (Nat × Nat)), s.size ≤ pos + f → pos ≤ s.size → (∀ a, st = some a → a < pos) →
    acc.map (fun p => pieceU s.data.toList p.1 p.2) ++ spl (openPiece s.data.toList st pos) (s.data.toList.drop pos) = (closeSpans s (spansFromP isB s f pos st acc)).map (fun p => pieceU s.data.toList p.1 p.2)
  | 0, pos, st, acc, h, hp, hst => by
    obtain rfl : pos = s.size := by omega
    have hd : s.data.toList.drop s.size = [] := List.drop_eq_nil_of_le (by rw [← size_eq]; exact Nat.le_refl _)
    rw [hd, spl]
    cases st with
    | none => simp [spansFromP, closeSpans, openPiece]
    | some a =>
      have := pieceU_ne s.data.toList a s.size (hst a rfl) (by rw [← size_eq]; exact Nat.le_refl _)
      simp [spansFromP, closeSpans, openPiece, this]
  | f + 1, pos, st, acc, h, hp, hst => by
    by_cases hlt : pos < s.size
    · have hl : pos < s.data.toList.length := by rw [← size_eq]; exact hlt
      have hw := width_pos s pos
      have hwn : pos + (Utf8.decode s pos).2 ≤ s.size := by
        have := decodeN_le_n' (s.size - pos) (s.get! pos).toNat (s.get! (pos + 1)).toNat (s.get! (pos + 2)).toNat (s.get! (pos + 3)).toNat (by omega)
        rw [← decode_at] at this
        omega
      have e := decode_N s pos
      simp only [spansFromP, if_pos hlt]
      cases hsp : isB (Utf8.decode s pos).1 with
      | true =>
        have hr : (Utf8.decode s pos).1 = 32 := (isB_iff _).1 hsp
        have hb := blank_is _ _ _ _ _ (UInt8.toNat_lt _) (e ▸ hr)
        rw [← e] at hb
        have h32 : s.data.toList.getD pos 0 = 32 := UInt8.toNat_inj.1 hb.1
        have hdr : s.data.toList.drop pos = 32 :: s.data.toList.drop (pos + 1) := by rw [drop_cons _ _ hl, h32]
        rw [hb.2] at hwn ⊢
        simp only [if_true]
        rw [hdr, spl, if_pos rfl]
        cases st with
        | none =>
          have ih := spans_words s f (pos + 1) none acc (by omega) hwn (fun a h => by cases h)
          simpa [openPiece] using ih
        | some a =>
          have hpn := pieceU_ne s.data.toList a pos (hst a rfl) (by omega)
          have ih := spans_words s f (pos + 1) none (acc ++ [(a, pos)]) (by omega) hwn (fun a h => by cases h)
          simpa [openPiece, hpn] using ih
      | false =>
        have hr : (Utf8.decode s pos).1 ≠ 32 := fun h => by have := (isB_iff _).2 h; unfold isB at hsp; rw [this] at hsp; cases hsp
        have hb := blank_not _ _ _ _ _ (e ▸ hr)
        rw [← e] at hb
        obtain ⟨K, hK⟩ : ∃ K, (Utf8.decode s pos).2 = K := ⟨_, rfl⟩
        rw [hK] at hb hw hwn ⊢
        have hall : ∀ b ∈ (s.data.toList.drop pos).take K, b ≠ 32 := by
          intro b hbm
          obtain ⟨i, hi, rfl⟩ := List.getElem_of_mem hbm
          have hiK : i < K := by rw [List.length_take] at hi; omega
          have hil : pos + i < s.data.toList.length := by rw [← size_eq]; omega
          have hg : ((s.data.toList.drop pos).take K)[i] = s.data.toList.getD (pos + i) 0 := by
            simp [List.getD, List.getElem?_eq_getElem hil]
          rw [hg]
          intro h32
          have h32' : (s.data.toList.getD (pos + i) 0).toNat = 32 := by rw [h32]; rfl
          rcases (show i = 0 ∨ i = 1 ∨ i = 2 ∨ i = 3 by omega) with rfl | rfl | rfl | rfl
          · exact hb.1 h32'
          · exact hb.2.1 (by omega) h32'
          · exact hb.2.2.1 (by omega) h32'
          · exact hb.2.2.2.1 (by omega) h32'
        have hsplit : s.data.toList.drop pos = (s.data.toList.drop pos).take K ++ s.data.toList.drop (pos + K) := by
          rw [← List.drop_drop, List.take_append_drop]
        rw [hsplit, spl_skip _ _ _ hall]
        simp only [Bool.false_eq_true, if_false]
        cases st with
        | none =>
          have ih := spans_words s f (pos + K) (some pos) acc (by omega) hwn (fun a h => by cases h; omega)
          have e : ([] : List UInt8) ++ (s.data.toList.drop pos).take K = pieceU s.data.toList pos (pos + K) := by
            unfold pieceU
            rw [List.nil_append, Nat.add_sub_cancel_left]
          simp only [openPiece] at ih ⊢
          rw [e]
          exact ih
        | some a =>
          have ih := spans_words s f (pos + K) (some a) acc (by omega) hwn (fun b h => by cases h; have := hst a rfl; omega)
          simp only [openPiece] at ih ⊢
          rw [pieceU_grow _ _ _ _ (Nat.le_of_lt (hst a rfl))]
          exact ih
    · obtain rfl : pos = s.size := by omega
      have hd : s.data.toList.drop s.size = [] := List.drop_eq_nil_of_le (by rw [← size_eq]; exact Nat.le_refl _)
      rw [hd, spl, spansFromP_end isB s _ _ _ _ hlt]
      cases st with
      | none => simp [closeSpans, openPiece]
      | some a =>
        have := pieceU_ne s.data.toList a s.size (hst a rfl) (by rw [← size_eq]; exact Nat.le_refl _)
        simp [closeSpans, openPiece, this]
theorem fields_words (s : ByteArray) : goFieldsP isB s = words s := by
  have h := spans_words s s.size 0 none [] (by omega) (Nat.zero_le _) (fun a h => by cases h)
  simp only [List.map_nil, List.nil_append, openPiece, List.drop_zero] at h
  unfold words wordsL goFieldsP spansOfP
  rw [h, List.map_map]
  apply List.map_congr_left
  intro p _
  unfold ba
  apply ByteArray.ext
  apply Array.toList_inj.1
  simp [pieceU]
end

/- Numbers. -/
def digit (c : UInt8) : Bool := decide (48 ≤ c.toNat) && decide (c.toNat ≤ 57)
def val (l : List UInt8) : Nat := l.foldl (fun n c => n * 10 + (c.toNat - 48)) 0
def numL (l : List UInt8) : Option Nat := if decide (1 ≤ l.length) && decide (l.length ≤ 10) && l.all digit then some (val l) else none
def amt (s : ByteArray) : Option Nat := match numL s.data.toList with
  | some n => if n ≤ 4294967295 then some n else none
  | none => none
def tim (s : ByteArray) : Option Int := if s.data.toList.head? = some 45 then (numL s.data.toList.tail).map (fun n => -(n : Int)) else (numL s.data.toList).map (fun n => (n : Int))

/- Commands. -/
structure Cm where
  kind : Int
  keys : List ByteArray
  flags : Int
  exp : Int
  quiet : Bool
  reply : ByteArray
def mt : ByteArray := ⟨#[]⟩
def rErr : ByteArray := ⟨#[69, 82, 82, 79, 82, 13, 10]⟩
def rFmt : ByteArray := ⟨#[67, 76, 73, 69, 78, 84, 95, 69, 82, 82, 79, 82, 32, 98, 97, 100, 32, 99, 111, 109, 109, 97, 110, 100, 32, 108, 105, 110, 101, 32, 102, 111, 114, 109, 97, 116, 13, 10]⟩
def rBig : ByteArray := ⟨#[83, 69, 82, 86, 69, 82, 95, 69, 82, 82, 79, 82, 32, 111, 98, 106, 101, 99, 116, 32, 116, 111, 111, 32, 108, 97, 114, 103, 101, 32, 102, 111, 114, 32, 99, 97, 99, 104, 101, 13, 10]⟩
def wNo : ByteArray := ⟨#[110, 111, 114, 101, 112, 108, 121]⟩
def bad (r : ByteArray) : Cm := ⟨8, [], 0, 0, false, r⟩
def at' (L : List ByteArray) (i : Nat) : ByteArray := L.getD i mt
def getC (L : List ByteArray) : Cm := if decide (1 ≤ L.length) && decide (L.length ≤ 16) && L.all keyMay then ⟨1, L, 0, 0, false, mt⟩ else bad rFmt
def quietW (L : List ByteArray) (n : Nat) : Bool := decide (L.length = n + 1) && decide (at' L n = wNo)
def dat (L : List ByteArray) : Int := if L.length = 4 ∨ L.length = 5 then (match amt (at' L 3) with | some n => (n : Int) | none => -1) else -1
def setC (L : List ByteArray) : Cm :=
  if (decide (L.length = 4) || quietW L 4) && keyMay (at' L 0) then
    (match amt (at' L 1), tim (at' L 2) with
     | some f, some t => if dat L = -1 then bad rFmt else if 1024 < dat L then bad rBig else ⟨2, [at' L 0], f, t, quietW L 4, mt⟩
     | _, _ => bad rFmt)
  else bad rFmt
def delC (L : List ByteArray) : Cm := if (decide (L.length = 1) || quietW L 1) && keyMay (at' L 0) then ⟨3, [at' L 0], 0, 0, quietW L 1, mt⟩ else bad rFmt
def touC (L : List ByteArray) : Cm :=
  if (decide (L.length = 2) || quietW L 2) && keyMay (at' L 0) then
    (match tim (at' L 1) with
     | some t => ⟨4, [at' L 0], 0, t, quietW L 2, mt⟩
     | none => bad rFmt)
  else bad rFmt
def aloC (k : Int) (L : List ByteArray) : Cm := if L.length = 0 then ⟨k, [], 0, 0, false, mt⟩ else bad rFmt
def parseC : List ByteArray → Cm × Int
  | [] => (bad rErr, -1)
  | x :: L =>
    if x = ⟨#[103, 101, 116]⟩ then (getC L, -1)
    else if x = ⟨#[115, 101, 116]⟩ then (setC L, dat L)
    else if x = ⟨#[100, 101, 108, 101, 116, 101]⟩ then (delC L, -1)
    else if x = ⟨#[116, 111, 117, 99, 104]⟩ then (touC L, -1)
    else if x = ⟨#[115, 116, 97, 116, 115]⟩ then (aloC 5 L, -1)
    else if x = ⟨#[118, 101, 114, 115, 105, 111, 110]⟩ then (aloC 6 L, -1)
    else if x = ⟨#[113, 117, 105, 116]⟩ then (aloC 7 L, -1)
    else (bad rErr, -1)
end Go.Proofs.Ytcbmjbldhbgipaa
