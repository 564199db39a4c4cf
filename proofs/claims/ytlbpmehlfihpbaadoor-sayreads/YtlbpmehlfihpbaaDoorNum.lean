/- The contract of the function that reads a number in digits. A word has at most 2^47 bytes; the library's variables are as it lays them. -/
import Derived.Test.YtlbpmehlfihpbaaDoorSay
import Derived.Lib.AtoiErrMem
namespace Go.Proofs.YtlbpmehlfihpbaaDoor
open Go.ChangeShapes Go.WideShapes Go.ChangeAt Go.RowKit
set_option linter.unusedVariables false
set_option linter.unusedSimpArgs false

theorem neq_text (a b : ByteArray) : (!a.toList == b.toList) = !decide (a = b) := by
  congr 1
  rw [Bool.eq_iff_iff, decide_eq_true_iff, beq_iff_eq, ByteArray.toList_eq, ByteArray.toList_eq]
  exact ⟨fun h => bytes_ext h, fun h => by rw [h]⟩
theorem num_parse {l : List UInt8} {m : Nat} (hm : m < 18446744073709551616) (h : ∀ u, Lib.parseUintB 64 l ≠ .ok u) : numOf l m = none :=
  num_none (fun n hn e => h n (by rw [e]; exact parse_dec (by omega)))
theorem num_ok {l : List UInt8} {m u : Nat} (hm : m < 18446744073709551616) (h : Lib.parseUintB 64 l = .ok u) : numOf l m = if u ≤ m ∧ dec u = l then some u else none := by
  split
  · rename_i h1; exact num_some.2 ⟨h1.2.symm, h1.1⟩
  · rename_i h1
    refine num_none (fun n hn e => h1 ?_)
    have := parse_dec (n := n) (by omega)
    rw [← e, h] at this
    injection this with this
    subst this
    exact ⟨hn, e.symm⟩
def numV (o : Option Nat) : Value := match o with
  | some n => .tuple #[.int .u64 (n : Int), .bool true]
  | none => .tuple #[.int .u64 0, .bool false]
set_option maxHeartbeats 800000 in
set_option maxRecDepth 100000 in
theorem number_any (s : ByteArray) (m : Nat) (hs : s.size ≤ 140737488355328) (hm : m < 18446744073709551616) (w : World) (hB : Base w) :
    Calls Tryd.prog 43 #[.string s, .int .u64 (m : Int)] w fun e w' => e = .returned (numV (numOf s.data.toList m)) ∧ Kept w w' := by
  cases hp : Lib.parseUintB 64 s.data.toList with
  | ok u =>
    have hu : u < 18446744073709551616 := by
      have := Lib.parseUintB_le hp
      omega
    rw [num_ok hm hp]
    have hP : Calls Tryd.prog 55 #[.string s, .int .i64 10, .int .i64 64] w fun e w' => e = .returned (.tuple #[.int .u64 (u : Int), .nilIface]) ∧ Kept w w' := by
      refine (lib_parse_ok s (by omega) u hp w).mono ?_
      rintro e w' ⟨he, hw | hw⟩
      · exact ⟨he, by rw [hw]; exact kept_refl w⟩
      · exact ⟨he, by rw [hw]; exact kept_below (Lib.bytesWorld_below w 5 s)⟩
    by_cases h1 : u ≤ m
    · have h1' : ¬ (m : Int) < (u : Int) := by omega
      by_cases h2 : dec u = s.data.toList
      · rw [if_pos ⟨h1, h2⟩]
        have h3 : (⟨(Lib.decDigits u).toArray⟩ : ByteArray) = s := bytes_ext (by rw [mk_list]; exact h2)
        have hne := neq_text (⟨(Lib.decDigits u).toArray⟩ : ByteArray) s
        rw [decide_eq_true h3] at hne
        clear hp hm h1 h2
        go_enter Tryd.func43, Tryd.ntmps43
        go_wp2_with fail
        refine hP.mono ?_
        rintro e w1 ⟨rfl, hk1⟩
        have hD := digits_any u hu w1 (base_kept hB hk1)
        rw [h3] at hD hne
        clear hP h3 hu
        go_wp2_with fail
        refine hD.mono ?_
        rintro e w2 ⟨rfl, hk2⟩
        clear hD
        have hk := hid (kept_trans hk1 hk2)
        clear hk1 hk2
        go_wp2
        go_ret2
        exact ⟨rfl, hk.out⟩
      · rw [if_neg (fun h => h2 h.2)]
        have h3 : ¬ (⟨(Lib.decDigits u).toArray⟩ : ByteArray) = s := fun e => h2 (by rw [← e, mk_list]; rfl)
        have hne := neq_text (⟨(Lib.decDigits u).toArray⟩ : ByteArray) s
        rw [decide_eq_false h3] at hne
        clear hp hm h1 h2 h3
        go_enter Tryd.func43, Tryd.ntmps43
        go_wp2_with fail
        refine hP.mono ?_
        rintro e w1 ⟨rfl, hk1⟩
        have hD := digits_any u hu w1 (base_kept hB hk1)
        clear hP hu
        generalize (⟨(Lib.decDigits u).toArray⟩ : ByteArray) = d at *
        go_wp2_with fail
        refine hD.mono ?_
        rintro e w2 ⟨rfl, hk2⟩
        clear hD
        have hk := hid (kept_trans hk1 hk2)
        clear hk1 hk2
        go_wp2
        go_ret2
        exact ⟨rfl, hk.out⟩
    · rw [if_neg (fun h => h1 h.1)]
      have h1' : (m : Int) < (u : Int) := by omega
      clear hp hm h1
      go_enter Tryd.func43, Tryd.ntmps43
      go_wp2_with fail
      refine hP.mono ?_
      rintro e w1 ⟨rfl, hk1⟩
      clear hP hu
      go_wp2
      go_ret2
      exact ⟨rfl, hk1⟩
  | «syntax» =>
    rw [num_parse hm (fun u => by rw [hp]; intro e; cases e)]
    obtain ⟨ev, h1, h2⟩ := hB.syn
    have hP := lib_parse_syntax s (by omega) hp ev w h1 h2
    clear hp hm h1 h2 hB
    go_enter Tryd.func43, Tryd.ntmps43
    go_wp2_with fail
    refine hP.mono ?_
    rintro e w1 ⟨N, rfl, -, -, hb⟩
    have hk := hid (kept_below hb)
    clear hP hb
    go_wp2
    go_ret2
    exact ⟨rfl, hk.out⟩
  | range =>
    rw [num_parse hm (fun u => by rw [hp]; intro e; cases e)]
    obtain ⟨ev, h1, h2⟩ := hB.rng
    have hP := lib_parse_range s (by omega) hp ev w h1 h2
    clear hp hm h1 h2 hB
    go_enter Tryd.func43, Tryd.ntmps43
    go_wp2_with fail
    refine hP.mono ?_
    rintro e w1 ⟨N, rfl, -, -, hb⟩
    have hk := hid (kept_below hb)
    clear hP hb
    go_wp2
    go_ret2
    exact ⟨rfl, hk.out⟩
end Go.Proofs.YtlbpmehlfihpbaaDoor
