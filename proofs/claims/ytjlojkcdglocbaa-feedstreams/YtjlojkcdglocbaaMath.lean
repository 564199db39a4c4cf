/- The plain mathematics of a client's line: its words, its numbers, the command that it says. No condition. -/
import Derived.Test.YtjlojkcdglocbaaKeys
import Derived.Lib.FieldsP
import Derived.Lib.TrimUEq
namespace Go.Proofs.Ytjlojkcdglocbaa
set_option linter.unusedVariables false

/- Words: runs of bytes other than 32. -/
def spl : List UInt8 → List UInt8 → List (List UInt8)
  | cur, [] => if cur.isEmpty then [] else [cur]
  | cur, b :: t => if b = 32 then (if cur.isEmpty then spl [] t else cur :: spl [] t) else spl (cur ++ [b]) t
def ba (l : List UInt8) : ByteArray := ⟨l.toArray⟩
def wordsL (l : List UInt8) : List (List UInt8) := spl [] l
def words (s : ByteArray) : List ByteArray := (wordsL s.data.toList).map ba
theorem spl_skip : ∀ (xs cur t : List UInt8), (∀ b ∈ xs, b ≠ 32) → spl cur (xs ++ t) = spl (cur ++ xs) t
  | [], cur, t, _ => by simp
  | b :: xs, cur, t, h => by
    have hb : b ≠ 32 := h b (List.mem_cons_self)
    have ih := spl_skip xs (cur ++ [b]) t (fun c hc => h c (List.mem_cons_of_mem _ hc))
    rw [List.cons_append, spl, if_neg hb, ih, List.append_assoc, List.singleton_append]
theorem spl_blank : ∀ (x cur y : List UInt8), spl cur (x ++ 32 :: y) = spl cur x ++ spl [] y
  | [], cur, y => by
    rw [List.nil_append, spl, spl, if_pos rfl]
    cases cur <;> simp
  | b :: x, cur, y => by
    rw [List.cons_append, spl, spl]
    by_cases hb : b = 32
    · rw [if_pos hb, if_pos hb]
      cases cur with
      | nil => simp only [List.isEmpty_nil, if_true]; exact spl_blank x [] y
      | cons c cs => simp only [List.isEmpty_cons, Bool.false_eq_true, if_false, List.cons_append]; rw [spl_blank x [] y]
    · rw [if_neg hb, if_neg hb]
      exact spl_blank x _ y
theorem wordsL_blank (x y : List UInt8) : wordsL (x ++ 32 :: y) = wordsL x ++ wordsL y := spl_blank x [] y
theorem wordsL_one (x : List UInt8) (h0 : x ≠ []) (h : ∀ b ∈ x, b ≠ 32) : wordsL x = [x] := by
  have := spl_skip x [] [] h
  rw [List.append_nil] at this
  unfold wordsL
  rw [this, List.nil_append, spl]
  cases x with
  | nil => exact absurd rfl h0
  | cons c cs => rfl
/- A text behind which words begin anew. -/
def Cl (a : List UInt8) : Prop := ∀ y, wordsL (a ++ y) = wordsL a ++ wordsL y
theorem cl_nil : Cl [] := fun y => by simp [wordsL, spl]
theorem cl_blank (x : List UInt8) : Cl (x ++ [32]) := fun y => by
  rw [List.append_assoc, List.singleton_append, wordsL_blank, wordsL_blank x []]
  simp [wordsL, spl]
theorem cl_more {a x : List UInt8} (h : Cl a) (hx : Cl x) : Cl (a ++ x) := fun y => by
  rw [List.append_assoc, h, h x, hx, List.append_assoc]
theorem wordsL_word (x : List UInt8) : wordsL (x ++ [32]) = wordsL x := by
  rw [wordsL_blank x []]
  simp [wordsL, spl]
theorem cl_repl (k : Nat) : Cl (List.replicate k 32) := by
  cases k with
  | zero => exact cl_nil
  | succ k => rw [List.replicate_succ']; exact cl_blank _
theorem wordsL_repl : ∀ k : Nat, wordsL (List.replicate k 32) = []
  | 0 => rfl
  | k + 1 => by rw [List.replicate_succ', wordsL_word, wordsL_repl k]

section
open Go.Lib
theorem blank_is (n b0 b1 b2 b3 : Nat) (h0 : b0 < 256) (h : (decodeN n b0 b1 b2 b3).1 = 32) : b0 = 32 ∧ (decodeN n b0 b1 b2 b3).2 = 1 := by
  unfold decodeN at *
  repeat' split at h
  all_goals (simp only at h; first | (exfalso; omega) | skip)
  all_goals (rename_i hc; rw [if_pos hc]; exact ⟨h, rfl⟩)
theorem blank_not (n b0 b1 b2 b3 : Nat) (h : (decodeN n b0 b1 b2 b3).1 ≠ 32) :
    b0 ≠ 32 ∧ (1 < (decodeN n b0 b1 b2 b3).2 → b1 ≠ 32) ∧ (2 < (decodeN n b0 b1 b2 b3).2 → b2 ≠ 32) ∧ (3 < (decodeN n b0 b1 b2 b3).2 → b3 ≠ 32) ∧ (decodeN n b0 b1 b2 b3).2 ≤ 4 := by
  unfold decodeN at *
  repeat' split
  all_goals (simp only at h ⊢; try simp_all only [if_true, if_false])
  all_goals (refine ⟨?_, ?_, ?_, ?_, ?_⟩ <;> omega)
theorem isB_iff (r : Nat) : (r == 32) = true ↔ r = 32 := by simp
def isB (r : Nat) : Bool := r == 32
/- A rune that is the blank is the byte 32; any other one has no byte 32 in it. -/
theorem rune_blank (s : ByteArray) (p : Nat) (hp : p < s.data.toList.length) (h : isB (Utf8.decode s p).1 = true) : s.data.toList.drop p = 32 :: s.data.toList.drop (p + 1) ∧ (Utf8.decode s p).2 = 1 := by
  have e := decode_N s p
  have hb := blank_is _ _ _ _ _ (UInt8.toNat_lt _) (e ▸ (isB_iff _).1 h)
  rw [← e] at hb
  refine ⟨?_, hb.2⟩
  have h32 : s.data.toList[p] = 32 := by
    apply UInt8.toNat_inj.1
    have := hb.1
    simpa [List.getD, List.getElem?_eq_getElem hp] using this
  rw [List.drop_eq_getElem_cons hp, h32]
theorem rune_other (s : ByteArray) (p : Nat) (h : isB (Utf8.decode s p).1 = false) (hw : p + (Utf8.decode s p).2 ≤ s.data.toList.length) : ∀ c ∈ pieceU s.data.toList p (p + (Utf8.decode s p).2), c ≠ 32 := by
  have e := decode_N s p
  have hr : (Utf8.decode s p).1 ≠ 32 := fun h0 => by rw [show isB (Utf8.decode s p).1 = true from (isB_iff _).2 h0] at h; cases h
  obtain ⟨b0, b1, b2, b3, b4⟩ := e ▸ blank_not _ _ _ _ _ (e ▸ hr)
  intro c hc
  unfold pieceU at hc
  obtain ⟨i, hi, rfl⟩ := List.getElem_of_mem hc
  rw [List.length_take, List.length_drop] at hi
  have hlt : p + i < s.data.toList.length := by omega
  have hv : (((s.data.toList.drop p).take (p + (Utf8.decode s p).2 - p))[i]'(by rw [List.length_take, List.length_drop]; omega)).toNat = (s.data.toList.getD (p + i) 0).toNat := by
    simp [List.getD, List.getElem?_eq_getElem hlt]
  intro h0
  rw [h0] at hv
  have hv' : (s.data.toList.getD (p + i) 0).toNat = 32 := hv.symm
  have h4 : i < 4 := by omega
  match i, h4 with
  | 0, _ => exact b0 hv'
  | 1, _ => exact b1 (by omega) hv'
  | 2, _ => exact b2 (by omega) hv'
  | 3, _ => exact b3 (by omega) hv'
theorem close_words (s : ByteArray) (st : Option Nat) (acc : List (Nat × Nat)) (hst : ∀ a, st = some a → a < s.size) :
    (closeSpans s (acc, st)).map (fun p => pieceU s.data.toList p.1 p.2) = acc.map (fun p => pieceU s.data.toList p.1 p.2) ++ spl (openPiece s.data.toList st s.size) [] := by
  cases st with
  | none => unfold closeSpans openPiece; rw [spl]; simp
  | some a =>
    have hne : pieceU s.data.toList a s.size ≠ [] := pieceU_ne _ _ _ (hst a rfl) (by rw [size_eq]; exact Nat.le_refl _)
    unfold closeSpans openPiece
    rw [spl, List.map_append]
    cases hp : pieceU s.data.toList a s.size with
    | nil => exact absurd hp hne
    | cons c t => simp [hp]
theorem spans_words (s : ByteArray) (g : Nat) : ∀ (p : Nat) (st : Option Nat) (acc : List (Nat × Nat)), s.size ≤ p + g → p ≤ s.size → (∀ a, st = some a → a < p) →
    (closeSpans s (spansFromP isB s g p st acc)).map (fun p => pieceU s.data.toList p.1 p.2) = acc.map (fun p => pieceU s.data.toList p.1 p.2) ++ spl (openPiece s.data.toList st p) (s.data.toList.drop p) := by
  have hlen : s.data.toList.length = s.size := (size_eq s).symm
  induction g with
  | zero =>
    intro p st acc h1 h2 h3
    have hp : p = s.size := by omega
    subst hp
    rw [List.drop_eq_nil_of_le (Nat.le_of_eq hlen)]
    exact close_words s st acc h3
  | succ g ih =>
    intro p st acc h1 h2 h3
    by_cases hlt : p < s.size
    · have hw1 := width_pos s p
      have hw2 : p + (Utf8.decode s p).2 ≤ s.size := by
        have h := decodeN_le_n' (s.size - p) (s.get! p).toNat (s.get! (p + 1)).toNat (s.get! (p + 2)).toNat (s.get! (p + 3)).toNat (by omega)
        rw [← decode_at] at h
        omega
      simp only [spansFromP, if_pos hlt]
      cases hb : isB (Utf8.decode s p).1 with
      | true =>
        obtain ⟨hd, hk⟩ := rune_blank s p (by omega) hb
        rw [hk, hd, spl, if_pos rfl, if_pos rfl]
        have nx : ∀ acc', _ := fun acc' => ih (p + 1) none acc' (by omega) (by omega) (fun a h => by cases h)
        cases st with
        | none => exact nx acc
        | some a =>
          refine (nx (acc ++ [(a, p)])).trans ?_
          have hne : pieceU s.data.toList a p ≠ [] := pieceU_ne _ _ _ (h3 a rfl) (by omega)
          show _ = _ ++ (if (pieceU s.data.toList a p).isEmpty = true then _ else _)
          rw [if_neg (by simpa using hne), List.map_append, List.append_assoc]
          rfl
      | false =>
        have hno := rune_other s p hb (by omega)
        obtain ⟨K, hK⟩ : ∃ K, (Utf8.decode s p).2 = K := ⟨_, rfl⟩
        rw [hK] at hno hw1 hw2 ⊢
        rw [if_neg (by simp)]
        have hcut : s.data.toList.drop p = pieceU s.data.toList p (p + K) ++ s.data.toList.drop (p + K) := by
          unfold pieceU
          rw [Nat.add_sub_cancel_left, ← List.drop_drop, List.take_append_drop]
        rw [hcut, spl_skip _ _ _ hno]
        cases st with
        | none => exact ih (p + K) (some p) acc (by omega) hw2 (fun a h => by cases h; omega)
        | some a =>
          refine (ih (p + K) (some a) acc (by omega) hw2 (fun b h => by cases h; have := h3 a rfl; omega)).trans ?_
          have hgr := pieceU_grow s.data.toList a p K (Nat.le_of_lt (h3 a rfl))
          show _ ++ spl (pieceU s.data.toList a (p + K)) _ = _ ++ spl (pieceU s.data.toList a p ++ pieceU s.data.toList p (p + K)) _
          rw [← hgr]
          unfold pieceU
          rw [Nat.add_sub_cancel_left]
    · have hp : p = s.size := by omega
      subst hp
      rw [spansFromP_end isB s _ _ _ _ hlt, List.drop_eq_nil_of_le (Nat.le_of_eq hlen)]
      exact close_words s st acc h3
theorem fields_words (s : ByteArray) : goFieldsP isB s = words s := by
  have h := spans_words s s.size 0 none [] (by omega) (Nat.zero_le _) (fun a h => by cases h)
  simp only [List.map_nil, List.nil_append, openPiece, List.drop_zero] at h
  unfold words wordsL goFieldsP spansOfP
  rw [← h, List.map_map]
  apply List.map_congr_left
  intro p _
  unfold ba
  apply ByteArray.ext
  apply Array.toList_inj.1
  simp [pieceU]
end

/- Numbers. -/
def digit (c : UInt8) : Bool := decide (48 ≤ c.toNat) && decide (c.toNat ≤ 57)
def val (l : List UInt8) : Nat := l.foldl (fun n c => n * 10 + (c.toNat - 48)) 0
def numL (l : List UInt8) : Option Nat := if decide (1 ≤ l.length) && decide (l.length ≤ 10) && l.all digit then some (val l) else none
def amt (s : ByteArray) : Option Nat := match numL s.data.toList with
  | some n => if n ≤ 4294967295 then some n else none
  | none => none
def tim (s : ByteArray) : Option Int := if s.data.toList.head? = some 45 then (numL s.data.toList.tail).map (fun n => -(n : Int)) else (numL s.data.toList).map (fun n => (n : Int))

/- Commands. -/
structure Cm where
  kind : Int
  keys : List ByteArray
  flags : Int
  exp : Int
  quiet : Bool
  reply : ByteArray
def mt : ByteArray := ⟨#[]⟩
def rErr : ByteArray := ⟨#[69, 82, 82, 79, 82, 13, 10]⟩
def rFmt : ByteArray := ⟨#[67, 76, 73, 69, 78, 84, 95, 69, 82, 82, 79, 82, 32, 98, 97, 100, 32, 99, 111, 109, 109, 97, 110, 100, 32, 108, 105, 110, 101, 32, 102, 111, 114, 109, 97, 116, 13, 10]⟩
def rBig : ByteArray := ⟨#[83, 69, 82, 86, 69, 82, 95, 69, 82, 82, 79, 82, 32, 111, 98, 106, 101, 99, 116, 32, 116, 111, 111, 32, 108, 97, 114, 103, 101, 32, 102, 111, 114, 32, 99, 97, 99, 104, 101, 13, 10]⟩
def wNo : ByteArray := ⟨#[110, 111, 114, 101, 112, 108, 121]⟩
def bad (r : ByteArray) : Cm := ⟨8, [], 0, 0, false, r⟩
def at' (L : List ByteArray) (i : Nat) : ByteArray := L.getD i mt
def getC (L : List ByteArray) : Cm := if decide (1 ≤ L.length) && decide (L.length ≤ 16) && L.all keyMay then ⟨1, L, 0, 0, false, mt⟩ else bad rFmt
def quietW (L : List ByteArray) (n : Nat) : Bool := decide (L.length = n + 1) && decide (at' L n = wNo)
def dat (L : List ByteArray) : Int := if L.length = 4 ∨ L.length = 5 then (match amt (at' L 3) with | some n => (n : Int) | none => -1) else -1
def setC (L : List ByteArray) : Cm :=
  if (decide (L.length = 4) || quietW L 4) && keyMay (at' L 0) then
    (match amt (at' L 1), tim (at' L 2) with
     | some f, some t => if dat L = -1 then bad rFmt else if 1024 < dat L then bad rBig else ⟨2, [at' L 0], f, t, quietW L 4, mt⟩
     | _, _ => bad rFmt)
  else bad rFmt
def delC (L : List ByteArray) : Cm := if (decide (L.length = 1) || quietW L 1) && keyMay (at' L 0) then ⟨3, [at' L 0], 0, 0, quietW L 1, mt⟩ else bad rFmt
def touC (L : List ByteArray) : Cm :=
  if (decide (L.length = 2) || quietW L 2) && keyMay (at' L 0) then
    (match tim (at' L 1) with
     | some t => ⟨4, [at' L 0], 0, t, quietW L 2, mt⟩
     | none => bad rFmt)
  else bad rFmt
def aloC (k : Int) (L : List ByteArray) : Cm := if L.length = 0 then ⟨k, [], 0, 0, false, mt⟩ else bad rFmt
def parseC : List ByteArray → Cm × Int
  | [] => (bad rErr, -1)
  | x :: L =>
    if x = ⟨#[103, 101, 116]⟩ then (getC L, -1)
    else if x = ⟨#[115, 101, 116]⟩ then (setC L, dat L)
    else if x = ⟨#[100, 101, 108, 101, 116, 101]⟩ then (delC L, -1)
    else if x = ⟨#[116, 111, 117, 99, 104]⟩ then (touC L, -1)
    else if x = ⟨#[115, 116, 97, 116, 115]⟩ then (aloC 5 L, -1)
    else if x = ⟨#[118, 101, 114, 115, 105, 111, 110]⟩ then (aloC 6 L, -1)
    else if x = ⟨#[113, 117, 105, 116]⟩ then (aloC 7 L, -1)
    else (bad rErr, -1)
end Go.Proofs.Ytjlojkcdglocbaa
