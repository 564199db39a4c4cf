/- The contracts of the reference's functions that cut a text at a byte and read a number. They turn nothing. -/
import Derived.Test.YtlbpmehlfihpbaaDoorSame
namespace Go.Proofs.YtlbpmehlfihpbaaDoor
open Go.ChangeShapes Go.WideShapes Go.ChangeAt Go.RowKit
set_option linter.unusedVariables false
set_option linter.unusedSimpArgs false

theorem pre_at (s : ByteArray) (c : UInt8) (k : Nat) (hk : k < s.size) (h1 : ∀ q (hq : q < s.size), q < k → s[q] ≠ c) (h2 : s[k] = c) : (pre s.data.toList c).length = k := by
  have hkl : k < s.data.toList.length := by rw [size_list]; exact hk
  have e : s.data.toList = s.data.toList.take k ++ c :: s.data.toList.drop (k + 1) := by
    have h3 : s.data.toList[k] = c := h2
    rw [← h3, ← List.drop_eq_getElem_cons hkl, List.take_append_drop]
  rw [e, pre_append _ _ _ (fun hm => by
    obtain ⟨q, hq, e2⟩ := List.getElem_of_mem hm
    rw [List.length_take] at hq
    rw [List.getElem_take] at e2
    exact h1 q (by rw [← size_list]; omega) (by omega) e2), List.length_take]
  omega
theorem pre_no (s : ByteArray) (c : UInt8) (h : ∀ q (hq : q < s.size), s[q] ≠ c) : pre s.data.toList c = s.data.toList :=
  pre_all _ _ (fun hm => by
    obtain ⟨q, hq, e⟩ := List.getElem_of_mem hm
    exact h q (by rw [← size_list]; exact hq) e)
def partV (s : ByteArray) (c : UInt8) : Value := .tuple #[.string (s.extract 0 (pre s.data.toList c).length), .bool (decide ((pre s.data.toList c).length < s.size))]
set_option maxHeartbeats 1600000 in
theorem part_any (s : ByteArray) (c : UInt8) (hs : s.size ≤ maxLen) (w : World) :
    Calls Tryd.prog 26 #[.string s, .int .u8 (c.toNat : Int)] w fun e w' => e = .returned (partV s c) ∧ w' = w := by
  unfold maxLen at hs
  go_enter Tryd.func26, Tryd.ntmps26
  go_wp2
  go_loop [6] (fun j => ∃ k : Nat, k ≤ s.size ∧ j = .int .i64 k ∧ Hid (∀ q (hq : q < s.size), q < k → s[q] ≠ c)) (fun j => s.size - (intOf j).toNat)
  case atStart => exact ⟨0, Nat.zero_le _, rfl, fun q _ hq => absurd hq (by omega)⟩
  case round =>
    obtain ⟨k, hk, rfl, HG⟩ := hrel
    by_cases hlt : k < s.size
    · by_cases h : (s[k].toNat : Int) = (c.toNat : Int)
      · have h2 : s[k] = c := UInt8.toNat_inj.1 (by omega)
        have HE : Hid (partV s c = .tuple #[.string (s.extract 0 k), .bool true]) := by
          show _ = _
          unfold partV
          rw [pre_at s c k hlt HG.out h2, decide_eq_true hlt]
        have hb : ((s[k].toNat : Int) == (c.toNat : Int)) = true := by simpa using h
        clear h2
        go_wp2
        go_ret2
        exact ⟨by rw [HE.out]; rfl, rfl⟩
      · have HN : Hid (∀ q (hq : q < s.size), q < k + 1 → s[q] ≠ c) := fun q hq hl => by
          rcases (show q < k ∨ q = k by omega) with h1 | rfl
          · exact HG.out q hq h1
          · intro e; exact h (by rw [e])
        have hb : ((s[k].toNat : Int) == (c.toNat : Int)) = false := by simpa using h
        go_wp2
        go_round
        case rel => exact ⟨k + 1, by omega, by go_num, HN⟩
        case measure => simp [intOf]; omega
    · have HE : Hid (partV s c = .tuple #[.string s, .bool false]) := by
        show _ = _
        unfold partV
        have e := pre_no s c (fun q hq => HG.out q hq (by omega))
        rw [e, size_list, decide_eq_false (by omega)]
        have : s.extract 0 s.size = s := bytes_ext (by rw [ext_to, ← size_list, List.take_length])
        rw [this]
      go_wp2
      go_ret2
      exact ⟨by rw [HE.out]; rfl, rfl⟩
theorem val_step (l : List UInt8) (k : Nat) (hk : k < l.length) : val (l.take (k + 1)) = val (l.take k) * 10 + (l[k].toNat - 48) := by
  unfold val
  rw [List.take_succ_eq_append_getElem hk, valF_snoc]
theorem val_lt (l : List UInt8) : ∀ k, k ≤ l.length → (∀ q (hq : q < l.length), q < k → digit l[q] = true) → val (l.take k) < 10 ^ k
  | 0, _, _ => by simp [val, valF]
  | k + 1, hk, h => by
    have ih := val_lt l k (by omega) (fun q hq hl => h q hq (by omega))
    have hd := digit_facts (h k (by omega) (by omega))
    rw [val_step l k (by omega), Nat.pow_succ]
    omega
theorem val_small (l : List UInt8) (k : Nat) (hk : k ≤ l.length) (h10 : k ≤ 10) (h : ∀ q (hq : q < l.length), q < k → digit l[q] = true) : val (l.take k) < 10000000000 := by
  have h1 := val_lt l k hk h
  have h2 : 10 ^ k ≤ 10 ^ 10 := Nat.pow_le_pow_right (by omega) h10
  omega
theorem num_bad {l : List UInt8} {m k : Nat} (hk : k < l.length) (h : digit l[k] = false) : numOf l m = none :=
  num_none (fun n _ e => by
    have := dec_digit n l[k] (by rw [← e]; exact List.getElem_mem hk)
    rw [h] at this; cases this)
theorem num_good {l : List UInt8} (m : Nat) (h1 : 1 ≤ l.length) (h : ∀ q (hq : q < l.length), digit l[q] = true) (hz : 1 < l.length → l.head? ≠ some 48) : numOf l m = if val l ≤ m then some (val l) else none := by
  have e := dec_val (l.length - 1) l (by omega) (fun c hc => by
    obtain ⟨q, hq, rfl⟩ := List.getElem_of_mem hc
    exact h q hq) hz
  unfold numOf
  by_cases hm : val l ≤ m
  · rw [if_pos ⟨e, hm⟩, if_pos hm]
  · rw [if_neg (fun h => hm h.2), if_neg hm]
def dv (o : Option Nat) : Int := match o with | some n => (n : Int) | none => -1
theorem dv_cases (o : Option Nat) : (o = none ∧ dv o = -1) ∨ ∃ n, o = some n ∧ dv o = (n : Int) := by
  cases o with
  | none => exact .inl ⟨rfl, rfl⟩
  | some n => exact .inr ⟨n, rfl, rfl⟩
theorem head_at (s : ByteArray) (h : 0 < s.size) : s.data.toList.head? = some s[0] := by
  rw [List.head?_eq_getElem?, List.getElem?_eq_getElem (by rw [size_list]; exact h)]
  rfl
set_option maxHeartbeats 1600000 in
set_option maxRecDepth 100000 in
theorem refNumber_any (s : ByteArray) (m : Nat) (hs : s.size ≤ maxLen) (hm : m ≤ 4294967295) (w : World) :
    Calls Tryd.prog 28 #[.string s, .int .i64 (m : Int)] w fun e w' => e = .returned (.int .i64 (dv (numOf s.data.toList m))) ∧ w' = w := by
  have HL : Hid (s.data.toList.length = s.size) := size_list s
  unfold maxLen at hs
  by_cases h1 : (s.size : Int) = 0
  · have HE : Hid ((-1 : Int) = dv (numOf s.data.toList m)) := by
      show _ = _
      rw [num_none (fun n _ e => by
        have := dec_pos n
        rw [← e, HL.out] at this; omega)]
      rfl
    go_enter Tryd.func28, Tryd.ntmps28
    go_wp2
    go_ret
    exact ⟨ret_int HE.out, rfl⟩
  have d1 : ((s.size : Int) == 0) = false := by simpa using h1
  by_cases h2 : (10 : Int) < (s.size : Int)
  · have HE : Hid ((-1 : Int) = dv (numOf s.data.toList m)) := by
      show _ = _
      rw [num_none (fun n hn e => by
        have := dec_len 10 n (by omega) (by omega)
        rw [← e, HL.out] at this; omega)]
      rfl
    clear h1
    go_enter Tryd.func28, Tryd.ntmps28
    go_wp2
    go_ret
    exact ⟨ret_int HE.out, rfl⟩
  have H1 : Hid (1 ≤ s.size ∧ s.size ≤ 10) := ⟨by omega, by omega⟩
  have d2 : decide ((10 : Int) < (s.size : Int)) = false := by simpa using h2
  have hpos : 0 < s.size := by omega
  have hpos1 : (0 : Int) < (s.size : Int) := by omega
  clear h1 h2
  by_cases h3 : (1 : Int) < (s.size : Int) ∧ (s[0].toNat : Int) = 48
  · have HE : Hid ((-1 : Int) = dv (numOf s.data.toList m)) := by
      show _ = _
      rw [num_none (fun n hn e => by
        have h4 := dec_head (n := n) (by rw [← e, HL.out]; omega)
        rw [← e, head_at s hpos] at h4
        exact h4 (by rw [show s[0] = 48 from UInt8.toNat_inj.1 (by have : (48 : UInt8).toNat = 48 := rfl; omega)]))]
      rfl
    obtain ⟨h4, h5⟩ := h3
    have hb : ((s[0].toNat : Int) == 48) = true := by simpa using h5
    clear h5
    go_enter Tryd.func28, Tryd.ntmps28
    go_wp2
    go_ret
    exact ⟨ret_int HE.out, rfl⟩
  have HZ : Hid (1 < s.data.toList.length → s.data.toList.head? ≠ some 48) := fun hl e => by
    rw [head_at s hpos] at e
    injection e with e
    rw [HL.out] at hl
    exact h3 ⟨by omega, by rw [e]; rfl⟩
  have hd3 : decide ((1 : Int) < (s.size : Int)) = false ∨ (decide ((1 : Int) < (s.size : Int)) = true ∧ ((s[0].toNat : Int) == 48) = false) := by
    by_cases h4 : (1 : Int) < (s.size : Int)
    · exact .inr ⟨decide_eq_true h4, by simp; omega⟩
    · exact .inl (decide_eq_false h4)
  clear h3
  rcases hd3 with d3 | ⟨d3, d4⟩
  all_goals
    go_enter Tryd.func28, Tryd.ntmps28
    go_wp2
    go_loop [5, 6] (fun n j => ∃ k : Nat, k ≤ s.size ∧ j = .int .i64 k ∧ n = .int .i64 (val (s.data.toList.take k) : Nat) ∧ Hid (∀ q (hq : q < s.data.toList.length), q < k → digit s.data.toList[q] = true)) (fun _ j => s.size - (intOf j).toNat)
    case atStart => exact ⟨0, Nat.zero_le _, rfl, by simp [val, valF], fun q _ hq => absurd hq (by omega)⟩
    case round =>
      obtain ⟨k, hk, rfl, rfl, HG⟩ := hrel
      by_cases hlt : k < s.size
      · have hkl : Hid (k < s.data.toList.length) := by show k < _; rw [HL.out]; exact hlt
        by_cases c1 : (s[k].toNat : Int) < 48
        · have HE : Hid ((-1 : Int) = dv (numOf s.data.toList m)) := by
            show _ = _
            rw [num_bad hkl.out (by show digit s[k] = false; unfold digit; simp; omega)]; rfl
          go_wp2
          go_ret
          exact ⟨ret_int HE.out, rfl⟩
        · by_cases c2 : (57 : Int) < (s[k].toNat : Int)
          · have HE : Hid ((-1 : Int) = dv (numOf s.data.toList m)) := by
              show _ = _
              rw [num_bad hkl.out (by show digit s[k] = false; unfold digit; simp; omega)]; rfl
            go_wp2
            go_ret
            exact ⟨ret_int HE.out, rfl⟩
          · have hd : digit s[k] = true := digit_is (by omega) (by omega)
            have HN : Hid (∀ q (hq : q < s.data.toList.length), q < k + 1 → digit s.data.toList[q] = true) := fun q hq hl => by
              rcases (show q < k ∨ q = k by omega) with h | rfl
              · exact HG.out q hq h
              · exact hd
            have hv := val_small s.data.toList k (by rw [HL.out]; omega) (by have := H1.out; omega) HG.out
            have HS : Hid (val (s.data.toList.take (k + 1)) = val (s.data.toList.take k) * 10 + (s[k].toNat - 48)) := val_step _ k hkl.out
            clear hd
            generalize val (s.data.toList.take k) = v at *
            go_wp2
            go_round
            case rel => exact ⟨k + 1, by omega, by go_num, by rw [HS.out]; congr 1; omega, HN⟩
            case measure => simp [intOf]; omega
      · have he : k = s.data.toList.length := by rw [HL.out]; omega
        have HE : Hid (dv (numOf s.data.toList m) = if val (s.data.toList.take k) ≤ m then (val (s.data.toList.take k) : Int) else -1) := by
          show _ = _
          rw [num_good m (by rw [HL.out]; exact H1.out.1) (fun q hq => HG.out q hq (by omega)) HZ.out, he, List.take_length]
          split <;> rfl
        have hv := val_small s.data.toList k (by rw [HL.out]; omega) (by have := H1.out; omega) HG.out
        clear he
        generalize val (s.data.toList.take k) = v at *
        by_cases hvm : v ≤ m
        · have hvm1 : ¬ (m : Int) < (v : Int) := by omega
          have HE2 : Hid ((v : Int) = dv (numOf s.data.toList m)) := by show _ = _; rw [HE.out, if_pos hvm]
          clear HE hvm
          go_wp2
          go_ret
          exact ⟨ret_int HE2.out, rfl⟩
        · have hvm1 : (m : Int) < (v : Int) := by omega
          have HE2 : Hid ((-1 : Int) = dv (numOf s.data.toList m)) := by show _ = _; rw [HE.out, if_neg hvm]
          clear HE hvm
          go_wp2
          go_ret
          exact ⟨ret_int HE2.out, rfl⟩
end Go.Proofs.YtlbpmehlfihpbaaDoor
