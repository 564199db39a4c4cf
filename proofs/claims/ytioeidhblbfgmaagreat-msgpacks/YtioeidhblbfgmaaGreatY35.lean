/- The contract of the reference's Decode: the same frames and errors as the plain function's. It turns nothing that was there. The text has at most 2^47 bytes. The last arms of the reference's Decode: as many bytes as are said; the sum fits, or it does not. The text has at most 2^47 bytes. -/
import Derived.Test.YtioeidhblbfgmaaGreatY34
import Derived.Laws.Cover1

namespace Go.Proofs.YtioeidhblbfgmaaGreat.Frm
open Go.ChangeShapes Go.WideShapes Go.ChangeAt Go.RowKit
set_option linter.unusedVariables false
set_option maxRecDepth 100000
set_option linter.unusedSimpArgs false

def ansV (d : UInt8 × UInt8 × UInt8 × ByteArray) (r : Nat) : Value := .tuple #[.agg #[.int .u8 (d.1.toNat : Int), .int .u8 (d.2.1.toNat : Int), .int .u8 (d.2.2.1.toNat : Int), .string d.2.2.2], .int .i64 (r : Int)]
def errV (r : Int) : Value := .tuple #[.agg #[.int .u8 0, .int .u8 0, .int .u8 0, .string ⟨#[]⟩], .int .i64 r]
theorem body_ext (s : ByteArray) (h5 : s.size = 12 + word4 s.data.toList 4) : (bodyOf s).data.toList = (s.data.toList.drop 8).take (word4 s.data.toList 4) := by
  unfold bodyOf
  rw [extract_list]
  congr 1
  omega
theorem slice_n (s : ByteArray) (N : Nat) (h5 : s.size = 12 + N) (w : World) :
    (Instr.slice 9 (.string s) (some (.int .i64 8)) (some (.int .i64 (8 + (N : Int)))) none).run Tryz.prog w = .ok (.string (bodyOf s)) w := by
  have := run_slice_string (P := Tryz.prog) w 9 s .i64 .i64 8 (8 + (N : Int)) Tryz.underlying9 (by omega) (by omega) (by omega)
  rw [this]
  unfold bodyOf
  rw [show (8 + (N : Int)).toNat = s.size - 4 by omega]
  rfl
theorem zeros_cells (w : World) : (w.alloc (.cells #[.int .u8 0, .int .u8 0, .int .u8 0, .string ⟨#[]⟩] 46)).cell? ⟨w.heap.size, 0, none⟩ = some (.int .u8 0) ∧ (w.alloc (.cells #[.int .u8 0, .int .u8 0, .int .u8 0, .string ⟨#[]⟩] 46)).cell? ⟨w.heap.size, 1, none⟩ = some (.int .u8 0) ∧ (w.alloc (.cells #[.int .u8 0, .int .u8 0, .int .u8 0, .string ⟨#[]⟩] 46)).cell? ⟨w.heap.size, 2, none⟩ = some (.int .u8 0) ∧ (w.alloc (.cells #[.int .u8 0, .int .u8 0, .int .u8 0, .string ⟨#[]⟩] 46)).cell? ⟨w.heap.size, 3, none⟩ = some (.string ⟨#[]⟩) := by
  obtain ⟨c0, c1, c2, c3, -⟩ := block_cells (alloc_block w (.cells #[.int .u8 0, .int .u8 0, .int .u8 0, .string ⟨#[]⟩] 46))
  exact ⟨c0, c1, c2, c3⟩
set_option maxHeartbeats 1600000 in
set_option maxRecDepth 100000 in
theorem refDecode_short (s : ByteArray) (w : World) (h1 : s.size < 12) :
    Calls Tryz.prog 26 #[.string s] w fun e w' => e = .returned (errV 2) ∧ Kept w w' := by
  unfold errV
  have hz := zero23
  have HZ : Hid _ := zeros_cells w
  have h1i : (s.size : Int) < 12 := by omega
  clear h1
  go_enter Tryz.func26, Tryz.ntmps26
  go_wp2
  obtain ⟨c0, c1, c2, c3⟩ := HZ.out
  exact bodyPost_ret (res_cell Tryz.results26 _ rfl rfl c0 c1 c2 c3) rfl ⟨rfl, kept_alloc (kept_refl w)⟩
set_option maxHeartbeats 1600000 in
set_option maxRecDepth 100000 in
theorem refDecode_form (s : ByteArray) (w : World) (h1 : 12 ≤ s.size) (hb : ¬ (s[0] = 1 ∧ fit s[1] s[2] s[3])) :
    Calls Tryz.prog 26 #[.string s] w fun e w' => e = .returned (errV 3) ∧ Kept w w' := by
  unfold errV
  have hz := zero23
  have HZ : Hid _ := zeros_cells w
  have h1i : ¬ (s.size : Int) < 12 := by omega
  have j1 : (1 : Int) < (s.size : Int) := by omega
  have j2 : (2 : Int) < (s.size : Int) := by omega
  have j3 : (3 : Int) < (s.size : Int) := by omega
  by_cases b0 : s[0] = 1
  · have d0 : ((s[0].toNat : Int) != 1) = false := by rw [b0]; rfl
    have hb2 : ¬ fit s[1] s[2] s[3] := fun hh => hb ⟨b0, hh⟩
    unfold fit at hb2
    clear hb b0
    by_cases b1 : (s[1].toNat : Int) = 0
    · clear hb2
      go_enter Tryz.func26, Tryz.ntmps26
      go_wp2
      obtain ⟨c0, c1, c2, c3⟩ := HZ.out
      exact bodyPost_ret (res_cell Tryz.results26 _ rfl rfl c0 c1 c2 c3) rfl ⟨rfl, kept_alloc (kept_refl w)⟩
    by_cases b2 : (14 : Int) < (s[1].toNat : Int)
    · clear hb2
      go_enter Tryz.func26, Tryz.ntmps26
      go_wp2
      obtain ⟨c0, c1, c2, c3⟩ := HZ.out
      exact bodyPost_ret (res_cell Tryz.results26 _ rfl rfl c0 c1 c2 c3) rfl ⟨rfl, kept_alloc (kept_refl w)⟩
    by_cases b3 : (63 : Int) < (s[2].toNat : Int)
    · clear hb2
      go_enter Tryz.func26, Tryz.ntmps26
      go_wp2
      obtain ⟨c0, c1, c2, c3⟩ := HZ.out
      exact bodyPost_ret (res_cell Tryz.results26 _ rfl rfl c0 c1 c2 c3) rfl ⟨rfl, kept_alloc (kept_refl w)⟩
    have b4 : (63 : Int) < (s[3].toNat : Int) := by omega
    clear hb2
    go_enter Tryz.func26, Tryz.ntmps26
    go_wp2
    obtain ⟨c0, c1, c2, c3⟩ := HZ.out
    exact bodyPost_ret (res_cell Tryz.results26 _ rfl rfl c0 c1 c2 c3) rfl ⟨rfl, kept_alloc (kept_refl w)⟩
  · have d0 := bne_u8 b0
    clear hb b0
    go_enter Tryz.func26, Tryz.ntmps26
    go_wp2
    obtain ⟨c0, c1, c2, c3⟩ := HZ.out
    exact bodyPost_ret (res_cell Tryz.results26 _ rfl rfl c0 c1 c2 c3) rfl ⟨rfl, kept_alloc (kept_refl w)⟩
set_option maxHeartbeats 1600000 in
set_option maxRecDepth 100000 in
theorem refDecode_long (s : ByteArray) (hs : s.size ≤ 140737488355328) (w : World) (h1 : 12 ≤ s.size) (b0 : s[0] = 1) (hf : fit s[1] s[2] s[3]) (h4 : 1048576 < word4 s.data.toList 4) :
    Calls Tryz.prog 26 #[.string s] w fun e w' => e = .returned (errV 4) ∧ Kept w w' := by
  unfold errV
  have hz := zero23
  have HZ : Hid _ := zeros_cells w
  have h1i : ¬ (s.size : Int) < 12 := by omega
  have j1 : (1 : Int) < (s.size : Int) := by omega
  have j2 : (2 : Int) < (s.size : Int) := by omega
  have j3 : (3 : Int) < (s.size : Int) := by omega
  have d0 : ((s[0].toNat : Int) != 1) = false := by rw [b0]; rfl
  unfold fit at hf
  have b1 : ¬ (s[1].toNat : Int) = 0 := by omega
  have b2 : ¬ (14 : Int) < (s[1].toNat : Int) := by omega
  have b3 : ¬ (63 : Int) < (s[2].toNat : Int) := by omega
  have b4 : ¬ (63 : Int) < (s[3].toNat : Int) := by omega
  have e1 : ((s[1].toNat : Int) == 0) = false := by rw [beq_eq_false_iff_ne]; exact b1
  have e2 : decide ((14 : Int) < (s[1].toNat : Int)) = false := decide_eq_false b2
  have e3 : decide ((63 : Int) < (s[2].toNat : Int)) = false := decide_eq_false b3
  have e4 : decide ((63 : Int) < (s[3].toNat : Int)) = false := decide_eq_false b4
  clear hf b0
  have HW : Hid (word4 s.data.toList 4 = val ((s.data.toList.drop 4).take 4)) := rfl
  generalize hN : word4 s.data.toList 4 = N at *
  have hs12 : 12 ≤ s.size := h1
  go_enter Tryz.func26, Tryz.ntmps26
  go_wp2
  clear d0 b1 b2 b3 b4 e1 e2 e3 e4
  go_loop [4, 5] (fun y j => ∃ q : Nat, q ≤ 4 ∧ j = .int .i64 ((4 + q : Nat) : Int) ∧ y = .int .i64 (val ((s.data.toList.drop 4).take q) : Int)) (fun _ j => 8 - (intOf j).toNat)
  case atStart => exact ⟨0, Nat.zero_le _, rfl, rfl⟩
  case round =>
    obtain ⟨q, hq, rfl, rfl⟩ := hrel
    by_cases hlt : q < 4
    · have hlen : 4 + q < s.data.toList.length := by rw [toList_size]; omega
      have hpk : 4 + q < s.size := by omega
      have HS : Hid (val ((s.data.toList.drop 4).take (q + 1)) = val ((s.data.toList.drop 4).take q) * 256 + s[4 + q].toNat) := by
        show _ = _
        rw [take_next _ _ _ hlen, val_snoc]; rfl
      have hl := val_le3 ((s.data.toList.drop 4).take q) (by simp; omega)
      generalize val ((s.data.toList.drop 4).take q) = h at *
      have hc := u8_lt s[4 + q]
      generalize hQ : 4 + q = Q at *
      have hq8 : (Q : Int) < 8 := by omega
      go_wp2
      go_round
      case rel => exact ⟨q + 1, by omega, by go_num, by rw [HS.out]; go_num⟩
      case measure => simp [intOf]; omega
    · have hkk : q = 4 := by omega
      subst hkk
      rw [← HW.out]
      have h4i : (1048576 : Int) < (N : Int) := by omega
      go_wp2
      obtain ⟨c0, c1, c2, c3⟩ := HZ.out
      exact bodyPost_ret (res_cell Tryz.results26 _ rfl rfl c0 c1 c2 c3) rfl ⟨rfl, kept_alloc (kept_refl w)⟩
set_option maxHeartbeats 1600000 in
set_option maxRecDepth 100000 in
theorem refDecode_less (s : ByteArray) (hs : s.size ≤ 140737488355328) (w : World) (h1 : 12 ≤ s.size) (b0 : s[0] = 1) (hf : fit s[1] s[2] s[3]) (h4 : ¬ 1048576 < word4 s.data.toList 4) (h5 : s.size < 12 + word4 s.data.toList 4) :
    Calls Tryz.prog 26 #[.string s] w fun e w' => e = .returned (errV 2) ∧ Kept w w' := by
  unfold errV
  have hz := zero23
  have HZ : Hid _ := zeros_cells w
  have h1i : ¬ (s.size : Int) < 12 := by omega
  have j1 : (1 : Int) < (s.size : Int) := by omega
  have j2 : (2 : Int) < (s.size : Int) := by omega
  have j3 : (3 : Int) < (s.size : Int) := by omega
  have d0 : ((s[0].toNat : Int) != 1) = false := by rw [b0]; rfl
  unfold fit at hf
  have b1 : ¬ (s[1].toNat : Int) = 0 := by omega
  have b2 : ¬ (14 : Int) < (s[1].toNat : Int) := by omega
  have b3 : ¬ (63 : Int) < (s[2].toNat : Int) := by omega
  have b4 : ¬ (63 : Int) < (s[3].toNat : Int) := by omega
  have e1 : ((s[1].toNat : Int) == 0) = false := by rw [beq_eq_false_iff_ne]; exact b1
  have e2 : decide ((14 : Int) < (s[1].toNat : Int)) = false := decide_eq_false b2
  have e3 : decide ((63 : Int) < (s[2].toNat : Int)) = false := decide_eq_false b3
  have e4 : decide ((63 : Int) < (s[3].toNat : Int)) = false := decide_eq_false b4
  clear hf b0
  have HW : Hid (word4 s.data.toList 4 = val ((s.data.toList.drop 4).take 4)) := rfl
  generalize hN : word4 s.data.toList 4 = N at *
  have hs12 : 12 ≤ s.size := h1
  go_enter Tryz.func26, Tryz.ntmps26
  go_wp2
  clear d0 b1 b2 b3 b4 e1 e2 e3 e4
  go_loop [4, 5] (fun y j => ∃ q : Nat, q ≤ 4 ∧ j = .int .i64 ((4 + q : Nat) : Int) ∧ y = .int .i64 (val ((s.data.toList.drop 4).take q) : Int)) (fun _ j => 8 - (intOf j).toNat)
  case atStart => exact ⟨0, Nat.zero_le _, rfl, rfl⟩
  case round =>
    obtain ⟨q, hq, rfl, rfl⟩ := hrel
    by_cases hlt : q < 4
    · have hlen : 4 + q < s.data.toList.length := by rw [toList_size]; omega
      have hpk : 4 + q < s.size := by omega
      have HS : Hid (val ((s.data.toList.drop 4).take (q + 1)) = val ((s.data.toList.drop 4).take q) * 256 + s[4 + q].toNat) := by
        show _ = _
        rw [take_next _ _ _ hlen, val_snoc]; rfl
      have hl := val_le3 ((s.data.toList.drop 4).take q) (by simp; omega)
      generalize val ((s.data.toList.drop 4).take q) = h at *
      have hc := u8_lt s[4 + q]
      generalize hQ : 4 + q = Q at *
      have hq8 : (Q : Int) < 8 := by omega
      go_wp2
      go_round
      case rel => exact ⟨q + 1, by omega, by go_num, by rw [HS.out]; go_num⟩
      case measure => simp [intOf]; omega
    · have hkk : q = 4 := by omega
      subst hkk
      rw [← HW.out]
      have h4i : ¬ (1048576 : Int) < (N : Int) := by omega
      have h5i : (s.size : Int) < 12 + (N : Int) := by omega
      go_wp2
      obtain ⟨c0, c1, c2, c3⟩ := HZ.out
      exact bodyPost_ret (res_cell Tryz.results26 _ rfl rfl c0 c1 c2 c3) rfl ⟨rfl, kept_alloc (kept_refl w)⟩
set_option maxHeartbeats 1600000 in
set_option maxRecDepth 100000 in
theorem refDecode_more (s : ByteArray) (hs : s.size ≤ 140737488355328) (w : World) (h1 : 12 ≤ s.size) (b0 : s[0] = 1) (hf : fit s[1] s[2] s[3]) (h4 : ¬ 1048576 < word4 s.data.toList 4) (h5 : 12 + word4 s.data.toList 4 < s.size) :
    Calls Tryz.prog 26 #[.string s] w fun e w' => e = .returned (errV 3) ∧ Kept w w' := by
  unfold errV
  have hz := zero23
  have HZ : Hid _ := zeros_cells w
  have h1i : ¬ (s.size : Int) < 12 := by omega
  have j1 : (1 : Int) < (s.size : Int) := by omega
  have j2 : (2 : Int) < (s.size : Int) := by omega
  have j3 : (3 : Int) < (s.size : Int) := by omega
  have d0 : ((s[0].toNat : Int) != 1) = false := by rw [b0]; rfl
  unfold fit at hf
  have b1 : ¬ (s[1].toNat : Int) = 0 := by omega
  have b2 : ¬ (14 : Int) < (s[1].toNat : Int) := by omega
  have b3 : ¬ (63 : Int) < (s[2].toNat : Int) := by omega
  have b4 : ¬ (63 : Int) < (s[3].toNat : Int) := by omega
  have e1 : ((s[1].toNat : Int) == 0) = false := by rw [beq_eq_false_iff_ne]; exact b1
  have e2 : decide ((14 : Int) < (s[1].toNat : Int)) = false := decide_eq_false b2
  have e3 : decide ((63 : Int) < (s[2].toNat : Int)) = false := decide_eq_false b3
  have e4 : decide ((63 : Int) < (s[3].toNat : Int)) = false := decide_eq_false b4
  clear hf b0
  have HW : Hid (word4 s.data.toList 4 = val ((s.data.toList.drop 4).take 4)) := rfl
  generalize hN : word4 s.data.toList 4 = N at *
  have hs12 : 12 ≤ s.size := h1
  go_enter Tryz.func26, Tryz.ntmps26
  go_wp2
  clear d0 b1 b2 b3 b4 e1 e2 e3 e4
  go_loop [4, 5] (fun y j => ∃ q : Nat, q ≤ 4 ∧ j = .int .i64 ((4 + q : Nat) : Int) ∧ y = .int .i64 (val ((s.data.toList.drop 4).take q) : Int)) (fun _ j => 8 - (intOf j).toNat)
  case atStart => exact ⟨0, Nat.zero_le _, rfl, rfl⟩
  case round =>
    obtain ⟨q, hq, rfl, rfl⟩ := hrel
    by_cases hlt : q < 4
    · have hlen : 4 + q < s.data.toList.length := by rw [toList_size]; omega
      have hpk : 4 + q < s.size := by omega
      have HS : Hid (val ((s.data.toList.drop 4).take (q + 1)) = val ((s.data.toList.drop 4).take q) * 256 + s[4 + q].toNat) := by
        show _ = _
        rw [take_next _ _ _ hlen, val_snoc]; rfl
      have hl := val_le3 ((s.data.toList.drop 4).take q) (by simp; omega)
      generalize val ((s.data.toList.drop 4).take q) = h at *
      have hc := u8_lt s[4 + q]
      generalize hQ : 4 + q = Q at *
      have hq8 : (Q : Int) < 8 := by omega
      go_wp2
      go_round
      case rel => exact ⟨q + 1, by omega, by go_num, by rw [HS.out]; go_num⟩
      case measure => simp [intOf]; omega
    · have hkk : q = 4 := by omega
      subst hkk
      rw [← HW.out]
      have h4i : ¬ (1048576 : Int) < (N : Int) := by omega
      have h5i : ¬ (s.size : Int) < 12 + (N : Int) := by omega
      have h6i : 12 + (N : Int) < (s.size : Int) := by omega
      go_wp2
      obtain ⟨c0, c1, c2, c3⟩ := HZ.out
      exact bodyPost_ret (res_cell Tryz.results26 _ rfl rfl c0 c1 c2 c3) rfl ⟨rfl, kept_alloc (kept_refl w)⟩
end Go.Proofs.YtioeidhblbfgmaaGreat.Frm


namespace Go.Proofs.YtioeidhblbfgmaaGreat.Frm
open Go.ChangeShapes Go.WideShapes Go.ChangeAt Go.RowKit
set_option linter.unusedVariables false
set_option maxRecDepth 100000
set_option linter.unusedSimpArgs false

theorem bytes_ne {a b : ByteArray} (h : a ≠ b) : (!a.toList == b.toList) = true := by
  rw [ByteArray.toList_eq, ByteArray.toList_eq]
  have : (a.data.toList == b.data.toList) = false := by
    rw [beq_eq_false_iff_ne]
    exact fun e => h (bytes_ext e)
  rw [this]; rfl
theorem box_drew {X : Nat} {k f t : Int} {s : ByteArray} {w : World} (h : Box X k f t s w) : Box X k f t s w.drew := h
theorem kept_set {X : Nat} {u w : World} (h : Kept u w) (hX : u.heap.size ≤ X) (o : Nat) (v : Value) : Kept u (w.setCell ⟨X, o, none⟩ v) :=
  kept_of (show w.os = u.os from kept_os h) (show w.output = u.output from kept_output h) (by simp [World.setCell]; exact h.2) (fun i hi => (Below.heap_setCell _ _ _ _ (by show i ≠ X; omega)).trans (kept_block h hi))
theorem set4_kept {X : Nat} {u w : World} (h : Kept u w) (hX : u.heap.size ≤ X) (v0 v1 v2 v3 : Value) : Kept u (set4 w X v0 v1 v2 v3) :=
  kept_set (kept_set (kept_set (kept_set h hX _ _) hX _ _) hX _ _) hX _ _
set_option maxHeartbeats 1600000 in
set_option maxRecDepth 100000 in
theorem refDecode_sum (s : ByteArray) (hs : s.size ≤ 140737488355328) (w : World) (h1 : 12 ≤ s.size) (b0 : s[0] = 1) (hf : fit s[1] s[2] s[3]) (H4 : Hid (¬ 1048576 < word4 s.data.toList 4)) (H5 : Hid (s.size = 12 + word4 s.data.toList 4))
    (H6 : Hid (word4 s.data.toList (8 + word4 s.data.toList 4) ≠ more 0 (s.data.toList.take (8 + word4 s.data.toList 4)))) :
    Calls Tryz.prog 26 #[.string s] w fun e w' => e = .returned (errV 5) ∧ Kept w w' := by
  have HBo : Hid ((bodyOf s).data.toList = (s.data.toList.drop 8).take (word4 s.data.toList 4)) := body_ext s H5.out
  have HLT : Hid (lay s[1] s[2] s[3] ((s.data.toList.drop 8).take (word4 s.data.toList 4)) = s.data.toList ↔ word4 s.data.toList (8 + word4 s.data.toList 4) = more 0 (s.data.toList.take (8 + word4 s.data.toList 4))) := by
    have := last_test s.data.toList ((at_get s 0 (by omega)).trans b0) (by rw [toList_size]; exact H5.out)
    rw [at_get s 1 (by omega), at_get s 2 (by omega), at_get s 3 (by omega)] at this
    exact this
  have HEN : Hid (encS s[1] s[2] s[3] (bodyOf s) = (⟨(lay s[1] s[2] s[3] (bodyOf s).data.toList).toArray⟩, 0)) :=
    enc_of s[1] s[2] s[3] (bodyOf s) (by rw [← toList_size, HBo.out, body_length _ (by rw [toList_size]; exact H5.out)]; have := H4.out; omega) hf
  have HQ : Hid ((⟨(lay s[1] s[2] s[3] (bodyOf s).data.toList).toArray⟩ : ByteArray) ≠ s) := fun e => H6.out (HLT.out.1 (by rw [← HBo.out]; exact congrArg (fun z : ByteArray => z.data.toList) e))
  unfold errV
  have hz := zero23
  have HZ : Hid _ := zeros_cells w
  have h1i : ¬ (s.size : Int) < 12 := by omega
  have j1 : (1 : Int) < (s.size : Int) := by omega
  have j2 : (2 : Int) < (s.size : Int) := by omega
  have j3 : (3 : Int) < (s.size : Int) := by omega
  have d0 : ((s[0].toNat : Int) != 1) = false := by rw [b0]; rfl
  unfold fit at hf
  have b1 : ¬ (s[1].toNat : Int) = 0 := by omega
  have b2 : ¬ (14 : Int) < (s[1].toNat : Int) := by omega
  have b3 : ¬ (63 : Int) < (s[2].toNat : Int) := by omega
  have b4 : ¬ (63 : Int) < (s[3].toNat : Int) := by omega
  have e1 : ((s[1].toNat : Int) == 0) = false := by rw [beq_eq_false_iff_ne]; exact b1
  have e2 : decide ((14 : Int) < (s[1].toNat : Int)) = false := decide_eq_false b2
  have e3 : decide ((63 : Int) < (s[2].toNat : Int)) = false := decide_eq_false b3
  have e4 : decide ((63 : Int) < (s[3].toNat : Int)) = false := decide_eq_false b4
  clear hf b0
  have HRE : Hid (∀ w, Calls Tryz.prog 22 #[.agg #[.int .u8 (s[1].toNat : Int), .int .u8 (s[2].toNat : Int), .int .u8 (s[3].toNat : Int), .string (bodyOf s)]] w fun e w' => e = .returned (.tuple #[.string ⟨(lay s[1] s[2] s[3] (bodyOf s).data.toList).toArray⟩, .int .i64 0]) ∧ Kept w w') := fun w => by
    have := refEncode_any s[1] s[2] s[3] (bodyOf s) w
    rw [HEN.out] at this
    exact this
  have HSL : Hid (∀ w, (Instr.slice 9 (.string s) (some (.int .i64 8)) (some (.int .i64 (8 + ((word4 s.data.toList 4 : Nat) : Int)))) none).run Tryz.prog w = .ok (.string (bodyOf s)) w) := fun w => slice_n s _ H5.out w
  clear HBo HLT HEN H6
  generalize (⟨(lay s[1] s[2] s[3] (bodyOf s).data.toList).toArray⟩ : ByteArray) = T at *
  generalize bodyOf s = Bd at *
  have HW : Hid (word4 s.data.toList 4 = val ((s.data.toList.drop 4).take 4)) := rfl
  generalize hN : word4 s.data.toList 4 = N at *
  have hs12 : 12 ≤ s.size := h1
  go_enter Tryz.func26, Tryz.ntmps26
  go_wp2
  clear d0 b1 b2 b3 b4 e1 e2 e3 e4
  go_loop [4, 5] (fun y j => ∃ q : Nat, q ≤ 4 ∧ j = .int .i64 ((4 + q : Nat) : Int) ∧ y = .int .i64 (val ((s.data.toList.drop 4).take q) : Int)) (fun _ j => 8 - (intOf j).toNat)
  case atStart => exact ⟨0, Nat.zero_le _, rfl, rfl⟩
  case round =>
    obtain ⟨q, hq, rfl, rfl⟩ := hrel
    by_cases hlt : q < 4
    · have hlen : 4 + q < s.data.toList.length := by rw [toList_size]; omega
      have hpk : 4 + q < s.size := by omega
      have HS : Hid (val ((s.data.toList.drop 4).take (q + 1)) = val ((s.data.toList.drop 4).take q) * 256 + s[4 + q].toNat) := by
        show _ = _
        rw [take_next _ _ _ hlen, val_snoc]; rfl
      have hl := val_le3 ((s.data.toList.drop 4).take q) (by simp; omega)
      generalize val ((s.data.toList.drop 4).take q) = h at *
      have hc := u8_lt s[4 + q]
      generalize hQ : 4 + q = Q at *
      have hq8 : (Q : Int) < 8 := by omega
      go_wp2
      go_round
      case rel => exact ⟨q + 1, by omega, by go_num, by rw [HS.out]; go_num⟩
      case measure => simp [intOf]; omega
    · have hkk : q = 4 := by omega
      subst hkk
      rw [← HW.out]
      have h4i : ¬ (1048576 : Int) < (N : Int) := by have := H4.out; omega
      have h5i : ¬ (s.size : Int) < 12 + (N : Int) := by have := H5.out; omega
      have h6i : ¬ 12 + (N : Int) < (s.size : Int) := by have := H5.out; omega
      have hsl := HSL.out
      go_wp2
      clear h4i h5i h6i h1i
      have hblk := alloc_block w (.cells #[.int .u8 0, .int .u8 0, .int .u8 0, .string ⟨#[]⟩] 46)
      have KW : Hid (Kept w (w.alloc (.cells #[.int .u8 0, .int .u8 0, .int .u8 0, .string ⟨#[]⟩] 46))) := kept_alloc (kept_refl w)
      have HSZ : Hid (w.heap.size < (w.alloc (.cells #[.int .u8 0, .int .u8 0, .int .u8 0, .string ⟨#[]⟩] 46)).heap.size) := by show _ < _; simp
      clear HZ
      generalize w.alloc (.cells #[.int .u8 0, .int .u8 0, .int .u8 0, .string ⟨#[]⟩] 46) = w0 at *
      have HBK : Hid (w0.heap[w.heap.size]? = some (.cells #[.int .u8 0, .int .u8 0, .int .u8 0, .string ⟨#[]⟩] 46)) := hblk
      clear hblk
      obtain ⟨X, hX⟩ : ∃ X, X = w.heap.size := ⟨_, rfl⟩
      rw [← hX] at HSZ HBK ⊢
      have HXw : Hid (X = w.heap.size) := hX
      clear hX
      have hwN : IntKind.i64.wrap (8 + (N : Int)) = 8 + (N : Int) := by rw [IntKind.wrap_i64]; have := H4.out; omega
      go_region
      have KA : Kept w0 (w0.alloc (.cells #[.int .u8 (s[1].toNat : Int), .int .u8 (s[2].toNat : Int), .int .u8 (s[3].toNat : Int), .string Bd] 46)).drew := kept_drew (kept_alloc (kept_refl w0))
      have bx := box_drew (box_new w0 (s[1].toNat : Int) (s[2].toNat : Int) (s[3].toNat : Int) Bd (0, 0))
      obtain ⟨-, x0, x1, x2, x3⟩ := id bx
      have HKB : Hid (∀ w', Kept w0 w' → w'.heap[X]? = some (.cells #[.int .u8 0, .int .u8 0, .int .u8 0, .string ⟨#[]⟩] 46)) := fun w' g => (kept_block g HSZ.out).trans HBK.out
      generalize (w0.alloc (.cells #[.int .u8 (s[1].toNat : Int), .int .u8 (s[2].toNat : Int), .int .u8 (s[3].toNat : Int), .string Bd] 46)).drew = w1 at *
      generalize w0.heap.size = Y at *
      clear hwN hsl
      go_wp2_with fail
      refine (HRE.out _).mono ?_
      rintro e w2 ⟨rfl, K2⟩
      have KB := kept_trans KA K2
      obtain ⟨c0, c1, c2, c3, hfz⟩ := block_cells (HKB.out _ KB)
      obtain ⟨y0, y1, y2, y3⟩ := (box_kept bx K2).2
      have KS : Hid (Kept w (set4 w2 X (.int .u8 0) (.int .u8 0) (.int .u8 0) (.string ⟨#[]⟩))) := set4_kept (kept_trans KW.out KB) (Nat.le_of_eq HXw.out.symm) _ _ _ _
      have KC : Hid _ := set4_cells c0 c1 c2 c3 (.int .u8 0) (.int .u8 0) (.int .u8 0) (.string ⟨#[]⟩)
      clear KA bx x0 x1 x2 x3 K2 KB
      have hq := HQ.out
      have hq2 : (!T.toList == s.toList) = true := bytes_ne hq
      unfold set4 at KS KC
      go_wp2_with fail
      obtain ⟨k0, k1, k2, k3⟩ := KC.out
      exact bodyPost_ret (res_cell Tryz.results26 _ rfl rfl k0 k1 k2 k3) rfl ⟨rfl, KS.out⟩
set_option maxHeartbeats 1600000 in
set_option maxRecDepth 100000 in
theorem refDecode_ok (s : ByteArray) (hs : s.size ≤ 140737488355328) (w : World) (h1 : 12 ≤ s.size) (b0 : s[0] = 1) (hf : fit s[1] s[2] s[3]) (H4 : Hid (¬ 1048576 < word4 s.data.toList 4)) (H5 : Hid (s.size = 12 + word4 s.data.toList 4))
    (H6 : Hid (word4 s.data.toList (8 + word4 s.data.toList 4) = more 0 (s.data.toList.take (8 + word4 s.data.toList 4)))) :
    Calls Tryz.prog 26 #[.string s] w fun e w' => e = .returned (ansV (s[1], s[2], s[3], bodyOf s) 0) ∧ Kept w w' := by
  have HBo : Hid ((bodyOf s).data.toList = (s.data.toList.drop 8).take (word4 s.data.toList 4)) := body_ext s H5.out
  have HLT : Hid (lay s[1] s[2] s[3] ((s.data.toList.drop 8).take (word4 s.data.toList 4)) = s.data.toList ↔ word4 s.data.toList (8 + word4 s.data.toList 4) = more 0 (s.data.toList.take (8 + word4 s.data.toList 4))) := by
    have := last_test s.data.toList ((at_get s 0 (by omega)).trans b0) (by rw [toList_size]; exact H5.out)
    rw [at_get s 1 (by omega), at_get s 2 (by omega), at_get s 3 (by omega)] at this
    exact this
  have HEN : Hid (encS s[1] s[2] s[3] (bodyOf s) = (⟨(lay s[1] s[2] s[3] (bodyOf s).data.toList).toArray⟩, 0)) :=
    enc_of s[1] s[2] s[3] (bodyOf s) (by rw [← toList_size, HBo.out, body_length _ (by rw [toList_size]; exact H5.out)]; have := H4.out; omega) hf
  have HQ : Hid ((⟨(lay s[1] s[2] s[3] (bodyOf s).data.toList).toArray⟩ : ByteArray) = s) := bytes_ext (by rw [HBo.out]; exact HLT.out.2 H6.out)
  unfold ansV
  have hz := zero23
  have HZ : Hid _ := zeros_cells w
  have h1i : ¬ (s.size : Int) < 12 := by omega
  have j1 : (1 : Int) < (s.size : Int) := by omega
  have j2 : (2 : Int) < (s.size : Int) := by omega
  have j3 : (3 : Int) < (s.size : Int) := by omega
  have d0 : ((s[0].toNat : Int) != 1) = false := by rw [b0]; rfl
  unfold fit at hf
  have b1 : ¬ (s[1].toNat : Int) = 0 := by omega
  have b2 : ¬ (14 : Int) < (s[1].toNat : Int) := by omega
  have b3 : ¬ (63 : Int) < (s[2].toNat : Int) := by omega
  have b4 : ¬ (63 : Int) < (s[3].toNat : Int) := by omega
  have e1 : ((s[1].toNat : Int) == 0) = false := by rw [beq_eq_false_iff_ne]; exact b1
  have e2 : decide ((14 : Int) < (s[1].toNat : Int)) = false := decide_eq_false b2
  have e3 : decide ((63 : Int) < (s[2].toNat : Int)) = false := decide_eq_false b3
  have e4 : decide ((63 : Int) < (s[3].toNat : Int)) = false := decide_eq_false b4
  clear hf b0
  have HRE : Hid (∀ w, Calls Tryz.prog 22 #[.agg #[.int .u8 (s[1].toNat : Int), .int .u8 (s[2].toNat : Int), .int .u8 (s[3].toNat : Int), .string (bodyOf s)]] w fun e w' => e = .returned (.tuple #[.string ⟨(lay s[1] s[2] s[3] (bodyOf s).data.toList).toArray⟩, .int .i64 0]) ∧ Kept w w') := fun w => by
    have := refEncode_any s[1] s[2] s[3] (bodyOf s) w
    rw [HEN.out] at this
    exact this
  have HSL : Hid (∀ w, (Instr.slice 9 (.string s) (some (.int .i64 8)) (some (.int .i64 (8 + ((word4 s.data.toList 4 : Nat) : Int)))) none).run Tryz.prog w = .ok (.string (bodyOf s)) w) := fun w => slice_n s _ H5.out w
  clear HBo HLT HEN H6
  generalize (⟨(lay s[1] s[2] s[3] (bodyOf s).data.toList).toArray⟩ : ByteArray) = T at *
  generalize bodyOf s = Bd at *
  have HW : Hid (word4 s.data.toList 4 = val ((s.data.toList.drop 4).take 4)) := rfl
  generalize hN : word4 s.data.toList 4 = N at *
  have hs12 : 12 ≤ s.size := h1
  go_enter Tryz.func26, Tryz.ntmps26
  go_wp2
  clear d0 b1 b2 b3 b4 e1 e2 e3 e4
  go_loop [4, 5] (fun y j => ∃ q : Nat, q ≤ 4 ∧ j = .int .i64 ((4 + q : Nat) : Int) ∧ y = .int .i64 (val ((s.data.toList.drop 4).take q) : Int)) (fun _ j => 8 - (intOf j).toNat)
  case atStart => exact ⟨0, Nat.zero_le _, rfl, rfl⟩
  case round =>
    obtain ⟨q, hq, rfl, rfl⟩ := hrel
    by_cases hlt : q < 4
    · have hlen : 4 + q < s.data.toList.length := by rw [toList_size]; omega
      have hpk : 4 + q < s.size := by omega
      have HS : Hid (val ((s.data.toList.drop 4).take (q + 1)) = val ((s.data.toList.drop 4).take q) * 256 + s[4 + q].toNat) := by
        show _ = _
        rw [take_next _ _ _ hlen, val_snoc]; rfl
      have hl := val_le3 ((s.data.toList.drop 4).take q) (by simp; omega)
      generalize val ((s.data.toList.drop 4).take q) = h at *
      have hc := u8_lt s[4 + q]
      generalize hQ : 4 + q = Q at *
      have hq8 : (Q : Int) < 8 := by omega
      go_wp2
      go_round
      case rel => exact ⟨q + 1, by omega, by go_num, by rw [HS.out]; go_num⟩
      case measure => simp [intOf]; omega
    · have hkk : q = 4 := by omega
      subst hkk
      rw [← HW.out]
      have h4i : ¬ (1048576 : Int) < (N : Int) := by have := H4.out; omega
      have h5i : ¬ (s.size : Int) < 12 + (N : Int) := by have := H5.out; omega
      have h6i : ¬ 12 + (N : Int) < (s.size : Int) := by have := H5.out; omega
      have hsl := HSL.out
      go_wp2
      clear h4i h5i h6i h1i
      have hblk := alloc_block w (.cells #[.int .u8 0, .int .u8 0, .int .u8 0, .string ⟨#[]⟩] 46)
      have KW : Hid (Kept w (w.alloc (.cells #[.int .u8 0, .int .u8 0, .int .u8 0, .string ⟨#[]⟩] 46))) := kept_alloc (kept_refl w)
      have HSZ : Hid (w.heap.size < (w.alloc (.cells #[.int .u8 0, .int .u8 0, .int .u8 0, .string ⟨#[]⟩] 46)).heap.size) := by show _ < _; simp
      clear HZ
      generalize w.alloc (.cells #[.int .u8 0, .int .u8 0, .int .u8 0, .string ⟨#[]⟩] 46) = w0 at *
      have HBK : Hid (w0.heap[w.heap.size]? = some (.cells #[.int .u8 0, .int .u8 0, .int .u8 0, .string ⟨#[]⟩] 46)) := hblk
      clear hblk
      obtain ⟨X, hX⟩ : ∃ X, X = w.heap.size := ⟨_, rfl⟩
      rw [← hX] at HSZ HBK ⊢
      have HXw : Hid (X = w.heap.size) := hX
      clear hX
      have hwN : IntKind.i64.wrap (8 + (N : Int)) = 8 + (N : Int) := by rw [IntKind.wrap_i64]; have := H4.out; omega
      go_region
      have KA : Kept w0 (w0.alloc (.cells #[.int .u8 (s[1].toNat : Int), .int .u8 (s[2].toNat : Int), .int .u8 (s[3].toNat : Int), .string Bd] 46)).drew := kept_drew (kept_alloc (kept_refl w0))
      have bx := box_drew (box_new w0 (s[1].toNat : Int) (s[2].toNat : Int) (s[3].toNat : Int) Bd (0, 0))
      obtain ⟨-, x0, x1, x2, x3⟩ := id bx
      have HKB : Hid (∀ w', Kept w0 w' → w'.heap[X]? = some (.cells #[.int .u8 0, .int .u8 0, .int .u8 0, .string ⟨#[]⟩] 46)) := fun w' g => (kept_block g HSZ.out).trans HBK.out
      generalize (w0.alloc (.cells #[.int .u8 (s[1].toNat : Int), .int .u8 (s[2].toNat : Int), .int .u8 (s[3].toNat : Int), .string Bd] 46)).drew = w1 at *
      generalize w0.heap.size = Y at *
      clear hwN hsl
      go_wp2_with fail
      refine (HRE.out _).mono ?_
      rintro e w2 ⟨rfl, K2⟩
      have KB := kept_trans KA K2
      obtain ⟨c0, c1, c2, c3, hfz⟩ := block_cells (HKB.out _ KB)
      obtain ⟨y0, y1, y2, y3⟩ := (box_kept bx K2).2
      have KS : Hid (Kept w (set4 w2 X (.int .u8 (s[1].toNat : Int)) (.int .u8 (s[2].toNat : Int)) (.int .u8 (s[3].toNat : Int)) (.string Bd))) := set4_kept (kept_trans KW.out KB) (Nat.le_of_eq HXw.out.symm) _ _ _ _
      have KC : Hid _ := set4_cells c0 c1 c2 c3 (.int .u8 (s[1].toNat : Int)) (.int .u8 (s[2].toNat : Int)) (.int .u8 (s[3].toNat : Int)) (.string Bd)
      clear KA bx x0 x1 x2 x3 K2 KB
      have hq := HQ.out
      have hq2 : (!T.toList == s.toList) = false := by rw [hq]; simp
      unfold set4 at KS KC
      go_wp2_with fail
      obtain ⟨k0, k1, k2, k3⟩ := KC.out
      exact bodyPost_ret (res_cell Tryz.results26 _ rfl rfl k0 k1 k2 k3) rfl ⟨rfl, KS.out⟩
end Go.Proofs.YtioeidhblbfgmaaGreat.Frm
