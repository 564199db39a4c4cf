/- A set's line with four digits, and what the plain machine makes of it and its data. -/
import Derived.Test.YtjlojkcdglocbaaFeedTwo
namespace Go.Proofs.Ytjlojkcdglocbaa
open Go.ChangeShapes Go.WideShapes Go.ChangeAt Go.RowKit
set_option linter.unusedVariables false
set_option linter.unusedSimpArgs false

def dg (k : Nat) : UInt8 := UInt8.ofNat (48 + k)
def four (n : Nat) : List UInt8 := [dg (n / 1000), dg (n / 100 % 10), dg (n / 10 % 10), dg (n % 10)]
theorem dg_nat {k : Nat} (h : k ≤ 9) : (dg k).toNat = 48 + k := by
  unfold dg
  rw [UInt8.toNat_ofNat_of_lt']
  show 48 + k < 256
  omega
theorem dg_digit {k : Nat} (h : k ≤ 9) : digit (dg k) = true := by
  unfold digit
  rw [dg_nat h]
  simp
  omega
theorem dg_blank {k : Nat} (h : k ≤ 9) : dg k ≠ 32 := by
  intro e
  have := congrArg UInt8.toNat e
  rw [dg_nat h] at this
  simp at this
  omega
theorem four_val {n : Nat} (h : n ≤ 1024) : numL (four n) = some n := by
  unfold numL four
  have h1 := dg_digit (show n / 1000 ≤ 9 by omega)
  have h2 := dg_digit (show n / 100 % 10 ≤ 9 by omega)
  have h3 := dg_digit (show n / 10 % 10 ≤ 9 by omega)
  have h4 := dg_digit (show n % 10 ≤ 9 by omega)
  rw [if_pos (by simp [h1, h2, h3, h4])]
  simp only [val, List.foldl_cons, List.foldl_nil, dg_nat (show n / 1000 ≤ 9 by omega), dg_nat (show n / 100 % 10 ≤ 9 by omega), dg_nat (show n / 10 % 10 ≤ 9 by omega), dg_nat (show n % 10 ≤ 9 by omega)]
  congr 1
  omega
theorem four_amt {n : Nat} (h : n ≤ 1024) : amt (ba (four n)) = some n := by
  unfold amt
  rw [ba_list, four_val h]
  simp
  omega
theorem four_word {n : Nat} (h : n ≤ 1024) : wordsL (four n) = [four n] := by
  refine wordsL_one _ (by simp [four]) (fun b hb => ?_)
  simp only [four, List.mem_cons, List.not_mem_nil, or_false] at hb
  rcases hb with rfl | rfl | rfl | rfl <;> exact dg_blank (by omega)
def hd : List UInt8 := [115, 101, 116, 32, 107, 32, 55, 32, 48, 32]
def cK : Cm := ⟨2, [⟨#[107]⟩], 7, 0, false, mt⟩
theorem hd_words {n : Nat} (h : n ≤ 1024) : words (ba (hd ++ four n)) = [⟨#[115, 101, 116]⟩, ⟨#[107]⟩, ⟨#[55]⟩, ⟨#[48]⟩, ba (four n)] := by
  unfold words
  rw [ba_list]
  have e : hd ++ four n = [115, 101, 116] ++ 32 :: ([107] ++ 32 :: ([55] ++ 32 :: ([48] ++ 32 :: four n))) := rfl
  rw [e, wordsL_blank, wordsL_blank, wordsL_blank, wordsL_blank, four_word h, wordsL_one [115, 101, 116] (by decide) (by decide), wordsL_one [107] (by decide) (by decide), wordsL_one [55] (by decide) (by decide), wordsL_one [48] (by decide) (by decide)]
  rfl
theorem hd_line {n : Nat} (h : n ≤ 1024) : lineC (hd ++ four n ++ [13]) = (cK, (n : Int)) := by
  unfold lineC
  have et : trimR (hd ++ four n ++ [13]) = hd ++ four n := by
    unfold trimR
    rw [if_pos (by simp)]
    simp
  rw [et, hd_words h]
  have hd4 : dat [⟨#[107]⟩, ⟨#[55]⟩, ⟨#[48]⟩, ba (four n)] = (n : Int) := by
    unfold dat
    rw [if_pos (by simp)]
    simp [at', four_amt h]
  have h1 : keyMay ⟨#[107]⟩ = true := by decide +kernel
  have h2 : amt ⟨#[55]⟩ = some 7 := by decide +kernel
  have h3 : tim ⟨#[48]⟩ = some 0 := by decide +kernel
  rw [parseC_cons, if_neg (by decide +kernel), if_pos rfl, hd4]
  have hq : quietW [⟨#[107]⟩, ⟨#[55]⟩, ⟨#[48]⟩, ba (four n)] 4 = false := by simp [quietW]
  unfold setC
  rw [hd4, hq]
  simp only [at', List.getD_cons_zero, List.getD_cons_succ, h1, h2, h3, List.length_cons, List.length_nil]
  simp
  rw [if_neg (by omega)]
  rfl
theorem run_set {n : Nat} (h : n ≤ 1024) (body behind : List UInt8) (hb : body.length = n) : runB (.line []) (hd ++ four n ++ [13, 10] ++ body ++ [13, 10] ++ behind) = (⟨cK, ba body⟩ :: (runB (.line []) behind).1, (runB (.line []) behind).2) := by
  have e : hd ++ four n ++ [13, 10] ++ body ++ [13, 10] ++ behind = (hd ++ four n ++ [13]) ++ 10 :: (body ++ (13 :: 10 :: behind)) := by simp
  have hne : (10 : UInt8) ∉ hd ++ four n ++ [13] := by
    have h1 : ∀ k, k ≤ 9 → (10 : UInt8) ≠ dg k := fun k hk e => by
      have := congrArg UInt8.toNat e
      rw [dg_nat hk] at this
      simp at this
      omega
    simp [hd, four, h1 (n / 1000) (by omega), h1 (n / 100 % 10) (by omega), h1 (n / 10 % 10) (by omega), h1 (n % 10) (by omega)]
  rw [e, run_line_end _ [] _ hne (by simp [hd, four]), List.nil_append, hd_line h]
  have es : saidBy (cK, (n : Int)) = ([], .data cK n []) := by simp [saidBy, cK]
  rw [es, runB_quiet (run_data body cK n [] (by omega))]
  simp only [hb, Nat.sub_self, List.nil_append, runB_cons, stepB, if_pos, List.append_nil]
  simp
end Go.Proofs.Ytjlojkcdglocbaa
