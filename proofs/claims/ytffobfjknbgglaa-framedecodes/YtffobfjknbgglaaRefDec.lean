/- The contract of the reference's Decode: the same frames and errors as the plain function's. It turns nothing that was there. The text has at most 2^47 bytes. -/
import Derived.Test.YtffobfjknbgglaaRefEnc
namespace Go.Proofs.Ytffobfjknbgglaa
open Go.ChangeShapes Go.WideShapes Go.ChangeAt Go.RowKit
set_option linter.unusedVariables false
set_option linter.unusedSimpArgs false

def ansV (d : UInt8 × UInt8 × UInt8 × ByteArray) (r : Nat) : Value := .tuple #[.agg #[.int .u8 (d.1.toNat : Int), .int .u8 (d.2.1.toNat : Int), .int .u8 (d.2.2.1.toNat : Int), .string d.2.2.2], .int .i64 (r : Int)]
def errV (r : Int) : Value := .tuple #[.agg #[.int .u8 0, .int .u8 0, .int .u8 0, .string ⟨#[]⟩], .int .i64 r]
theorem body_ext (s : ByteArray) (h5 : s.size = 12 + word4 s.data.toList 4) : (bodyOf s).data.toList = (s.data.toList.drop 8).take (word4 s.data.toList 4) := by
  unfold bodyOf
  rw [extract_list]
  congr 1
  omega
theorem slice_n (s : ByteArray) (N : Nat) (h5 : s.size = 12 + N) (w : World) :
    (Instr.slice 9 (.string s) (some (.int .i64 8)) (some (.int .i64 (8 + (N : Int)))) none).run Try.prog w = .ok (.string (bodyOf s)) w := by
  have := run_slice_string (P := Try.prog) w 9 s .i64 .i64 8 (8 + (N : Int)) Try.underlying9 (by omega) (by omega) (by omega)
  rw [this]
  unfold bodyOf
  rw [show (8 + (N : Int)).toNat = s.size - 4 by omega]
  rfl
theorem zeros_cells (w : World) : (w.alloc (.cells #[.int .u8 0, .int .u8 0, .int .u8 0, .string ⟨#[]⟩] 23)).cell? ⟨w.heap.size, 0, none⟩ = some (.int .u8 0) ∧ (w.alloc (.cells #[.int .u8 0, .int .u8 0, .int .u8 0, .string ⟨#[]⟩] 23)).cell? ⟨w.heap.size, 1, none⟩ = some (.int .u8 0) ∧ (w.alloc (.cells #[.int .u8 0, .int .u8 0, .int .u8 0, .string ⟨#[]⟩] 23)).cell? ⟨w.heap.size, 2, none⟩ = some (.int .u8 0) ∧ (w.alloc (.cells #[.int .u8 0, .int .u8 0, .int .u8 0, .string ⟨#[]⟩] 23)).cell? ⟨w.heap.size, 3, none⟩ = some (.string ⟨#[]⟩) := by
  obtain ⟨c0, c1, c2, c3, -⟩ := block_cells (alloc_block w (.cells #[.int .u8 0, .int .u8 0, .int .u8 0, .string ⟨#[]⟩] 23))
  exact ⟨c0, c1, c2, c3⟩
set_option maxHeartbeats 1600000 in
set_option maxRecDepth 100000 in
theorem refDecode_short (s : ByteArray) (w : World) (h1 : s.size < 12) :
    Calls Try.prog 13 #[.string s] w fun e w' => e = .returned (errV 2) ∧ Kept w w' := by
  unfold errV
  have hz := zero23
  have HZ : Hid _ := zeros_cells w
  have h1i : (s.size : Int) < 12 := by omega
  clear h1
  go_enter Try.func13, Try.ntmps13
  go_wp2
  obtain ⟨c0, c1, c2, c3⟩ := HZ.out
  exact bodyPost_ret (res_cell Try.results13 _ rfl rfl c0 c1 c2 c3) rfl ⟨rfl, kept_alloc (kept_refl w)⟩
set_option maxHeartbeats 1600000 in
set_option maxRecDepth 100000 in
theorem refDecode_form (s : ByteArray) (w : World) (h1 : 12 ≤ s.size) (hb : ¬ (s[0] = 1 ∧ fit s[1] s[2] s[3])) :
    Calls Try.prog 13 #[.string s] w fun e w' => e = .returned (errV 3) ∧ Kept w w' := by
  unfold errV
  have hz := zero23
  have HZ : Hid _ := zeros_cells w
  have h1i : ¬ (s.size : Int) < 12 := by omega
  have j1 : (1 : Int) < (s.size : Int) := by omega
  have j2 : (2 : Int) < (s.size : Int) := by omega
  have j3 : (3 : Int) < (s.size : Int) := by omega
  by_cases b0 : s[0] = 1
  · have d0 : ((s[0].toNat : Int) != 1) = false := by rw [b0]; rfl
    have hb2 : ¬ fit s[1] s[2] s[3] := fun hh => hb ⟨b0, hh⟩
    unfold fit at hb2
    clear hb b0
    by_cases b1 : (s[1].toNat : Int) = 0
    · clear hb2
      go_enter Try.func13, Try.ntmps13
      go_wp2
      obtain ⟨c0, c1, c2, c3⟩ := HZ.out
      exact bodyPost_ret (res_cell Try.results13 _ rfl rfl c0 c1 c2 c3) rfl ⟨rfl, kept_alloc (kept_refl w)⟩
    by_cases b2 : (14 : Int) < (s[1].toNat : Int)
    · clear hb2
      go_enter Try.func13, Try.ntmps13
      go_wp2
      obtain ⟨c0, c1, c2, c3⟩ := HZ.out
      exact bodyPost_ret (res_cell Try.results13 _ rfl rfl c0 c1 c2 c3) rfl ⟨rfl, kept_alloc (kept_refl w)⟩
    by_cases b3 : (63 : Int) < (s[2].toNat : Int)
    · clear hb2
      go_enter Try.func13, Try.ntmps13
      go_wp2
      obtain ⟨c0, c1, c2, c3⟩ := HZ.out
      exact bodyPost_ret (res_cell Try.results13 _ rfl rfl c0 c1 c2 c3) rfl ⟨rfl, kept_alloc (kept_refl w)⟩
    have b4 : (63 : Int) < (s[3].toNat : Int) := by omega
    clear hb2
    go_enter Try.func13, Try.ntmps13
    go_wp2
    obtain ⟨c0, c1, c2, c3⟩ := HZ.out
    exact bodyPost_ret (res_cell Try.results13 _ rfl rfl c0 c1 c2 c3) rfl ⟨rfl, kept_alloc (kept_refl w)⟩
  · have d0 := bne_u8 b0
    clear hb b0
    go_enter Try.func13, Try.ntmps13
    go_wp2
    obtain ⟨c0, c1, c2, c3⟩ := HZ.out
    exact bodyPost_ret (res_cell Try.results13 _ rfl rfl c0 c1 c2 c3) rfl ⟨rfl, kept_alloc (kept_refl w)⟩
set_option maxHeartbeats 1600000 in
set_option maxRecDepth 100000 in
theorem refDecode_long (s : ByteArray) (hs : s.size ≤ 140737488355328) (w : World) (h1 : 12 ≤ s.size) (b0 : s[0] = 1) (hf : fit s[1] s[2] s[3]) (h4 : 1048576 < word4 s.data.toList 4) :
    Calls Try.prog 13 #[.string s] w fun e w' => e = .returned (errV 4) ∧ Kept w w' := by
  unfold errV
  have hz := zero23
  have HZ : Hid _ := zeros_cells w
  have h1i : ¬ (s.size : Int) < 12 := by omega
  have j1 : (1 : Int) < (s.size : Int) := by omega
  have j2 : (2 : Int) < (s.size : Int) := by omega
  have j3 : (3 : Int) < (s.size : Int) := by omega
  have d0 : ((s[0].toNat : Int) != 1) = false := by rw [b0]; rfl
  unfold fit at hf
  have b1 : ¬ (s[1].toNat : Int) = 0 := by omega
  have b2 : ¬ (14 : Int) < (s[1].toNat : Int) := by omega
  have b3 : ¬ (63 : Int) < (s[2].toNat : Int) := by omega
  have b4 : ¬ (63 : Int) < (s[3].toNat : Int) := by omega
  have e1 : ((s[1].toNat : Int) == 0) = false := by rw [beq_eq_false_iff_ne]; exact b1
  have e2 : decide ((14 : Int) < (s[1].toNat : Int)) = false := decide_eq_false b2
  have e3 : decide ((63 : Int) < (s[2].toNat : Int)) = false := decide_eq_false b3
  have e4 : decide ((63 : Int) < (s[3].toNat : Int)) = false := decide_eq_false b4
  clear hf b0
  have HW : Hid (word4 s.data.toList 4 = val ((s.data.toList.drop 4).take 4)) := rfl
  generalize hN : word4 s.data.toList 4 = N at *
  have hs12 : 12 ≤ s.size := h1
  go_enter Try.func13, Try.ntmps13
  go_wp2
  clear d0 b1 b2 b3 b4 e1 e2 e3 e4
  go_loop [4, 5] (fun y j => ∃ q : Nat, q ≤ 4 ∧ j = .int .i64 ((4 + q : Nat) : Int) ∧ y = .int .i64 (val ((s.data.toList.drop 4).take q) : Int)) (fun _ j => 8 - (intOf j).toNat)
  case atStart => exact ⟨0, Nat.zero_le _, rfl, rfl⟩
  case round =>
    obtain ⟨q, hq, rfl, rfl⟩ := hrel
    by_cases hlt : q < 4
    · have hlen : 4 + q < s.data.toList.length := by rw [toList_size]; omega
      have hpk : 4 + q < s.size := by omega
      have HS : Hid (val ((s.data.toList.drop 4).take (q + 1)) = val ((s.data.toList.drop 4).take q) * 256 + s[4 + q].toNat) := by
        show _ = _
        rw [take_next _ _ _ hlen, val_snoc]; rfl
      have hl := val_le3 ((s.data.toList.drop 4).take q) (by simp; omega)
      generalize val ((s.data.toList.drop 4).take q) = h at *
      have hc := u8_lt s[4 + q]
      generalize hQ : 4 + q = Q at *
      have hq8 : (Q : Int) < 8 := by omega
      go_wp2
      go_round
      case rel => exact ⟨q + 1, by omega, by go_num, by rw [HS.out]; go_num⟩
      case measure => simp [intOf]; omega
    · have hkk : q = 4 := by omega
      subst hkk
      rw [← HW.out]
      have h4i : (1048576 : Int) < (N : Int) := by omega
      go_wp2
      obtain ⟨c0, c1, c2, c3⟩ := HZ.out
      exact bodyPost_ret (res_cell Try.results13 _ rfl rfl c0 c1 c2 c3) rfl ⟨rfl, kept_alloc (kept_refl w)⟩
set_option maxHeartbeats 1600000 in
set_option maxRecDepth 100000 in
theorem refDecode_less (s : ByteArray) (hs : s.size ≤ 140737488355328) (w : World) (h1 : 12 ≤ s.size) (b0 : s[0] = 1) (hf : fit s[1] s[2] s[3]) (h4 : ¬ 1048576 < word4 s.data.toList 4) (h5 : s.size < 12 + word4 s.data.toList 4) :
    Calls Try.prog 13 #[.string s] w fun e w' => e = .returned (errV 2) ∧ Kept w w' := by
  unfold errV
  have hz := zero23
  have HZ : Hid _ := zeros_cells w
  have h1i : ¬ (s.size : Int) < 12 := by omega
  have j1 : (1 : Int) < (s.size : Int) := by omega
  have j2 : (2 : Int) < (s.size : Int) := by omega
  have j3 : (3 : Int) < (s.size : Int) := by omega
  have d0 : ((s[0].toNat : Int) != 1) = false := by rw [b0]; rfl
  unfold fit at hf
  have b1 : ¬ (s[1].toNat : Int) = 0 := by omega
  have b2 : ¬ (14 : Int) < (s[1].toNat : Int) := by omega
  have b3 : ¬ (63 : Int) < (s[2].toNat : Int) := by omega
  have b4 : ¬ (63 : Int) < (s[3].toNat : Int) := by omega
  have e1 : ((s[1].toNat : Int) == 0) = false := by rw [beq_eq_false_iff_ne]; exact b1
  have e2 : decide ((14 : Int) < (s[1].toNat : Int)) = false := decide_eq_false b2
  have e3 : decide ((63 : Int) < (s[2].toNat : Int)) = false := decide_eq_false b3
  have e4 : decide ((63 : Int) < (s[3].toNat : Int)) = false := decide_eq_false b4
  clear hf b0
  have HW : Hid (word4 s.data.toList 4 = val ((s.data.toList.drop 4).take 4)) := rfl
  generalize hN : word4 s.data.toList 4 = N at *
  have hs12 : 12 ≤ s.size := h1
  go_enter Try.func13, Try.ntmps13
  go_wp2
  clear d0 b1 b2 b3 b4 e1 e2 e3 e4
  go_loop [4, 5] (fun y j => ∃ q : Nat, q ≤ 4 ∧ j = .int .i64 ((4 + q : Nat) : Int) ∧ y = .int .i64 (val ((s.data.toList.drop 4).take q) : Int)) (fun _ j => 8 - (intOf j).toNat)
  case atStart => exact ⟨0, Nat.zero_le _, rfl, rfl⟩
  case round =>
    obtain ⟨q, hq, rfl, rfl⟩ := hrel
    by_cases hlt : q < 4
    · have hlen : 4 + q < s.data.toList.length := by rw [toList_size]; omega
      have hpk : 4 + q < s.size := by omega
      have HS : Hid (val ((s.data.toList.drop 4).take (q + 1)) = val ((s.data.toList.drop 4).take q) * 256 + s[4 + q].toNat) := by
        show _ = _
        rw [take_next _ _ _ hlen, val_snoc]; rfl
      have hl := val_le3 ((s.data.toList.drop 4).take q) (by simp; omega)
      generalize val ((s.data.toList.drop 4).take q) = h at *
      have hc := u8_lt s[4 + q]
      generalize hQ : 4 + q = Q at *
      have hq8 : (Q : Int) < 8 := by omega
      go_wp2
      go_round
      case rel => exact ⟨q + 1, by omega, by go_num, by rw [HS.out]; go_num⟩
      case measure => simp [intOf]; omega
    · have hkk : q = 4 := by omega
      subst hkk
      rw [← HW.out]
      have h4i : ¬ (1048576 : Int) < (N : Int) := by omega
      have h5i : (s.size : Int) < 12 + (N : Int) := by omega
      go_wp2
      obtain ⟨c0, c1, c2, c3⟩ := HZ.out
      exact bodyPost_ret (res_cell Try.results13 _ rfl rfl c0 c1 c2 c3) rfl ⟨rfl, kept_alloc (kept_refl w)⟩
set_option maxHeartbeats 1600000 in
set_option maxRecDepth 100000 in
theorem refDecode_more (s : ByteArray) (hs : s.size ≤ 140737488355328) (w : World) (h1 : 12 ≤ s.size) (b0 : s[0] = 1) (hf : fit s[1] s[2] s[3]) (h4 : ¬ 1048576 < word4 s.data.toList 4) (h5 : 12 + word4 s.data.toList 4 < s.size) :
    Calls Try.prog 13 #[.string s] w fun e w' => e = .returned (errV 3) ∧ Kept w w' := by
  unfold errV
  have hz := zero23
  have HZ : Hid _ := zeros_cells w
  have h1i : ¬ (s.size : Int) < 12 := by omega
  have j1 : (1 : Int) < (s.size : Int) := by omega
  have j2 : (2 : Int) < (s.size : Int) := by omega
  have j3 : (3 : Int) < (s.size : Int) := by omega
  have d0 : ((s[0].toNat : Int) != 1) = false := by rw [b0]; rfl
  unfold fit at hf
  have b1 : ¬ (s[1].toNat : Int) = 0 := by omega
  have b2 : ¬ (14 : Int) < (s[1].toNat : Int) := by omega
  have b3 : ¬ (63 : Int) < (s[2].toNat : Int) := by omega
  have b4 : ¬ (63 : Int) < (s[3].toNat : Int) := by omega
  have e1 : ((s[1].toNat : Int) == 0) = false := by rw [beq_eq_false_iff_ne]; exact b1
  have e2 : decide ((14 : Int) < (s[1].toNat : Int)) = false := decide_eq_false b2
  have e3 : decide ((63 : Int) < (s[2].toNat : Int)) = false := decide_eq_false b3
  have e4 : decide ((63 : Int) < (s[3].toNat : Int)) = false := decide_eq_false b4
  clear hf b0
  have HW : Hid (word4 s.data.toList 4 = val ((s.data.toList.drop 4).take 4)) := rfl
  generalize hN : word4 s.data.toList 4 = N at *
  have hs12 : 12 ≤ s.size := h1
  go_enter Try.func13, Try.ntmps13
  go_wp2
  clear d0 b1 b2 b3 b4 e1 e2 e3 e4
  go_loop [4, 5] (fun y j => ∃ q : Nat, q ≤ 4 ∧ j = .int .i64 ((4 + q : Nat) : Int) ∧ y = .int .i64 (val ((s.data.toList.drop 4).take q) : Int)) (fun _ j => 8 - (intOf j).toNat)
  case atStart => exact ⟨0, Nat.zero_le _, rfl, rfl⟩
  case round =>
    obtain ⟨q, hq, rfl, rfl⟩ := hrel
    by_cases hlt : q < 4
    · have hlen : 4 + q < s.data.toList.length := by rw [toList_size]; omega
      have hpk : 4 + q < s.size := by omega
      have HS : Hid (val ((s.data.toList.drop 4).take (q + 1)) = val ((s.data.toList.drop 4).take q) * 256 + s[4 + q].toNat) := by
        show _ = _
        rw [take_next _ _ _ hlen, val_snoc]; rfl
      have hl := val_le3 ((s.data.toList.drop 4).take q) (by simp; omega)
      generalize val ((s.data.toList.drop 4).take q) = h at *
      have hc := u8_lt s[4 + q]
      generalize hQ : 4 + q = Q at *
      have hq8 : (Q : Int) < 8 := by omega
      go_wp2
      go_round
      case rel => exact ⟨q + 1, by omega, by go_num, by rw [HS.out]; go_num⟩
      case measure => simp [intOf]; omega
    · have hkk : q = 4 := by omega
      subst hkk
      rw [← HW.out]
      have h4i : ¬ (1048576 : Int) < (N : Int) := by omega
      have h5i : ¬ (s.size : Int) < 12 + (N : Int) := by omega
      have h6i : 12 + (N : Int) < (s.size : Int) := by omega
      go_wp2
      obtain ⟨c0, c1, c2, c3⟩ := HZ.out
      exact bodyPost_ret (res_cell Try.results13 _ rfl rfl c0 c1 c2 c3) rfl ⟨rfl, kept_alloc (kept_refl w)⟩
end Go.Proofs.Ytffobfjknbgglaa
