/- Contracts of the program's Get and the reference's: the number at a place, the place behind it, the error. They turn nothing that was there. The text has at most 2^47 bytes. -/
import Derived.Test.YtnkfhacmkimncaaNumRef
namespace Go.Proofs.Ytnkfhacmkimncaa
open Go.ChangeShapes Go.WideShapes Go.ChangeAt Go.RowKit
set_option linter.unusedVariables false

/- What stands at a place within a text, laid open. -/
theorem getN_at (s : ByteArray) (a : Nat) (ha : a < s.size) : getN s (a : Int) =
    if s.size - a < wide (s[a].toNat / 64) then (0, 0, 2)
    else if kindOf (val (s.extract a (a + wide (s[a].toNat / 64))).data.toList % lim (s[a].toNat / 64)) = s[a].toNat / 64 then (val (s.extract a (a + wide (s[a].toNat / 64))).data.toList % lim (s[a].toNat / 64), a + wide (s[a].toNat / 64), 0)
    else (0, 0, 3) := by
  have hl : a < s.data.toList.length := by simpa using ha
  have hd : s.data.toList.drop a = s[a] :: s.data.toList.drop (a + 1) := by
    rw [List.drop_eq_getElem_cons hl]; rfl
  have hlen : (s[a] :: s.data.toList.drop (a + 1)).length = s.size - a := by
    rw [← hd, List.length_drop]; simp
  have he : val ((s[a] :: s.data.toList.drop (a + 1)).take (wide (s[a].toNat / 64))) = val (s.extract a (a + wide (s[a].toNat / 64))).data.toList := by
    rw [extract_list, ← hd, Nat.add_sub_cancel_left]
  unfold getN
  rw [if_neg (by omega), Int.toNat_natCast, hd]
  unfold getL
  simp only [hlen, he]
  clear he hlen hd
  generalize val (s.extract a (a + wide (s[a].toNat / 64))).data.toList = V
  by_cases h1 : s.size - a < wide (s[a].toNat / 64)
  · simp [h1]
  · by_cases h2 : kindOf (V % lim (s[a].toNat / 64)) = s[a].toNat / 64
    · simp [h1, h2]
    · simp [h1, h2]
theorem getN_end (s : ByteArray) : getN s (s.size : Int) = (0, 0, 2) := by
  have hd : s.data.toList.drop s.size = [] := List.drop_of_length_le (by simp)
  unfold getN
  rw [if_neg (by omega), Int.toNat_natCast, hd]
  rfl
theorem getN_out (s : ByteArray) (p : Int) (h : p < 0 ∨ (s.size : Int) < p) : getN s p = (0, 0, 1) := by
  unfold getN; rw [if_pos h]
/- Of the bytes that a kind tells: what they say, without the kind. -/
theorem val_at (s : ByteArray) (a : Nat) (ha : a < s.size) (h : ¬ s.size - a < wide (s[a].toNat / 64)) :
    (s.extract a (a + wide (s[a].toNat / 64))).size ≤ 8 ∧ val (s.extract a (a + wide (s[a].toNat / 64))).data.toList < 18446744073709551616 ∧ val (s.extract a (a + wide (s[a].toNat / 64))).data.toList / lim (s[a].toNat / 64) = s[a].toNat / 64 := by
  have hk : s[a].toNat / 64 ≤ 3 := by have := s[a].toNat_lt; omega
  have hw := wide_pos (s[a].toNat / 64)
  have hl : a < s.data.toList.length := by simpa using ha
  have hd : s.data.toList.drop a = s[a] :: s.data.toList.drop (a + 1) := by
    rw [List.drop_eq_getElem_cons hl]; rfl
  have he := extract_list s a (a + wide (s[a].toNat / 64))
  rw [Nat.add_sub_cancel_left] at he
  have hlen : (s.extract a (a + wide (s[a].toNat / 64))).data.toList.length = wide (s[a].toNat / 64) := by
    rw [he, List.length_take, List.length_drop]; simp; omega
  have hv := val_lt _ _ hlen
  refine ⟨?_, ?_, ?_⟩
  · have : (s.extract a (a + wide (s[a].toNat / 64))).size = (s.extract a (a + wide (s[a].toNat / 64))).data.toList.length := rfl
    omega
  · have h2 : 256 ^ wide (s[a].toNat / 64) ≤ 256 ^ 8 := Nat.pow_le_pow_right (by omega) hw.2
    rw [show (256 : Nat) ^ 8 = 18446744073709551616 by rfl] at h2
    omega
  · obtain ⟨u, hu⟩ : ∃ u, (s.extract a (a + wide (s[a].toNat / 64))).data.toList = s[a] :: u := by
      obtain ⟨v, hv⟩ : ∃ v, wide (s[a].toNat / 64) = v + 1 := ⟨wide (s[a].toNat / 64) - 1, by omega⟩
      exact ⟨(s.data.toList.drop (a + 1)).take v, by rw [he, hd, hv]; rfl⟩
    rw [hu] at hlen ⊢
    exact head_kind _ u _ hk hlen
theorem slice_at (s : ByteArray) (a v : Nat) (h : a + v ≤ s.size) (w : World) : (Instr.slice 9 (.string s) (some (.int .i64 (a : Int))) (some (.int .i64 ((a : Int) + (v : Int)))) none).run Try.prog w = .ok (.string (s.extract a (a + v))) w := by
  have := run_slice_string (P := Try.prog) w 9 s .i64 .i64 (a : Int) ((a : Int) + (v : Int)) Try.underlying9 (by omega) (by omega) (by omega)
  rw [this, Int.toNat_natCast, show ((a : Int) + (v : Int)).toNat = a + v by omega]
def trip (g : Nat × Nat × Nat) : Value := .tuple #[.int .u64 (g.1 : Int), .int .i64 (g.2.1 : Int), .int .i64 (g.2.2 : Int)]
set_option maxHeartbeats 1600000 in
theorem Get_out (s : ByteArray) (p : Int) (hs : s.size ≤ 140737488355328) (h : p < 0 ∨ (s.size : Int) < p) (w : World) : Calls Try.prog 69 #[.string s, .int .i64 p] w fun e w' => e = .returned (trip (getN s p)) ∧ w' = w := by
  rw [getN_out s p h]
  rcases (show p < 0 ∨ (¬ p < 0 ∧ (s.size : Int) < p) by omega) with h1 | ⟨h1, h2⟩
  all_goals
    go_enter Try.func69, Try.ntmps69
    go_wp2
    go_ret3
    exact ⟨rfl, rfl⟩
set_option maxHeartbeats 1600000 in
theorem Get_end (s : ByteArray) (hs : s.size ≤ 140737488355328) (w : World) : Calls Try.prog 69 #[.string s, .int .i64 (s.size : Int)] w fun e w' => e = .returned (trip (0, 0, 2)) ∧ w' = w := by
  go_enter Try.func69, Try.ntmps69
  go_wp2
  go_ret3
  exact ⟨rfl, rfl⟩
set_option maxHeartbeats 1600000 in
theorem Get_at (s : ByteArray) (a : Nat) (ha : a < s.size) (hs : s.size ≤ 140737488355328) (w : World) : Calls Try.prog 69 #[.string s, .int .i64 (a : Int)] w fun e w' => e = .returned (trip (getN s a)) ∧ w' = w := by
  have hk : s[a].toNat / 64 ≤ 3 := by have := s[a].toNat_lt; omega
  have hai : (a : Int) < (s.size : Int) := by omega
  have hgt : Hid (getN s a = _) := getN_at s a ha
  have hva := val_at s a ha
  obtain ⟨k, hkd⟩ : ∃ k, k = s[a].toNat / 64 := ⟨_, rfl⟩
  rw [← hkd] at hk hgt hva
  have hki : (s[a].toNat : Int) / 64 = (k : Int) := by omega
  clear hkd
  have hb := bitsFor_any k hk
  have hp := pow_kind k hk
  have hp2 := pow_wide k hk
  have hb62 := bitsOf_le k
  have hwr := wrap_kl k hk
  have hwk : IntKind.u64.wrap (k : Int) = (k : Int) := by rw [IntKind.wrap_u64]; omega
  have hw8 := wide_pos k
  by_cases h1 : s.size - a < wide k
  · have h1i : (s.size : Int) - (a : Int) < (wide k : Int) := by omega
    have hgt2 := hgt.out
    rw [if_pos h1] at hgt2
    rw [hgt2]
    clear hgt hgt2 hva
    go_enter Try.func69, Try.ntmps69
    go_wp2
    go_ret3
    exact ⟨rfl, rfl⟩
  · have h1i : ¬ (s.size : Int) - (a : Int) < (wide k : Int) := by omega
    obtain ⟨hv8, hv64, hvk⟩ := hva h1
    have hgt2 := hgt.out
    rw [if_neg h1] at hgt2
    rw [hgt2]
    clear hgt hgt2 hva
    have hrd := read_any _ hv8
    have hsl := slice_at s a (wide k) (by omega)
    have hand := andNot_kind k _ hk hv64 hvk
    rw [Int.natCast_mul] at hand
    generalize val (s.extract a (a + wide k)).data.toList = R at *
    have hl := kind_le (R % lim k)
    have hK := leastKind_any (R % lim k) (Nat.lt_of_le_of_lt (Nat.mod_le _ _) hv64)
    generalize hN : R % lim k = N at *
    generalize hT : kindOf N = T at *
    clear hT hN hvk
    by_cases h2 : T = k
    · rw [if_pos h2]
      have h2i : (T : Int) = (k : Int) := by omega
      go_enter Try.func69, Try.ntmps69
      go_wp2_with (first | (go_at_call 70; refine (hrd _).mono ?_; rintro e w ⟨rfl, rfl⟩) | (go_at_call 66; refine (hb _).mono ?_; rintro e w ⟨rfl, rfl⟩) | (go_at_call 65; refine (hK _).mono ?_; rintro e w ⟨rfl, rfl⟩))
      go_ret3
      exact ⟨rfl, rfl⟩
    · rw [if_neg h2]
      have h2i : ¬ (T : Int) = (k : Int) := by omega
      go_enter Try.func69, Try.ntmps69
      go_wp2_with (first | (go_at_call 70; refine (hrd _).mono ?_; rintro e w ⟨rfl, rfl⟩) | (go_at_call 66; refine (hb _).mono ?_; rintro e w ⟨rfl, rfl⟩) | (go_at_call 65; refine (hK _).mono ?_; rintro e w ⟨rfl, rfl⟩))
      go_ret3
      exact ⟨rfl, rfl⟩
end Go.Proofs.Ytnkfhacmkimncaa
