/- The contract of the program's check: why bytes are no frame, or OK. It turns at most the codec's own table. The text has at most 2^47 bytes. -/
import Derived.Test.YtffobfjknbgglaaEncode
import Derived.Deep.QuietTactic
import Derived.BigQuiet
namespace Go.Proofs.Ytffobfjknbgglaa
open Go.ChangeShapes Go.WideShapes Go.ChangeAt Go.RowKit
set_option linter.unusedVariables false
set_option linter.unusedSimpArgs false

theorem at_get (s : ByteArray) (i : Nat) (h : i < s.size) : at_ s.data.toList i = s[i] := by
  unfold at_
  rw [List.getD_eq_getElem?_getD, List.getElem?_eq_getElem (by simpa using h)]
  rfl
theorem toList_size (s : ByteArray) : s.data.toList.length = s.size := by simp
theorem extract_list (s : ByteArray) (a e : Nat) : (s.extract a e).data.toList = (s.data.toList.drop a).take (e - a) := by
  simp [ByteArray.data_extract, Array.toList_extract, List.extract_eq_take_drop]
theorem check_nil (s : ByteArray) (w : World) :
    Calls Try.prog 21 #[.pointer none, .string s] w fun e w' => e = .returned (.int .i64 1) ∧ w' = w := by
  go_enter Try.func21, Try.ntmps21
  go_wp2
  go_ret
  exact ⟨rfl, rfl⟩
theorem turn_drewN {b n : Nat} {w w' : World} (h : Turn b w w') : Turn b w (w'.drewN n) := h
theorem bne_u8 {a : UInt8} (h : a ≠ 1) : ((a.toNat : Int) != 1) = true := by
  rw [bne_iff_ne]
  intro e
  apply h
  apply UInt8.toNat_inj.1
  show a.toNat = 1
  omega
set_option maxHeartbeats 1600000 in
set_option maxRecDepth 100000 in
theorem check_any (c b : Nat) (s : ByteArray) (hs : s.size ≤ 140737488355328) (w : World) (h : Codec c b w) :
    Calls Try.prog 21 #[.pointer (some ⟨c, 0, none⟩), .string s] w fun e w' => e = .returned (.int .i64 (why s.data.toList : Int)) ∧ Turn b w w' := by
  obtain ⟨r, hr⟩ : ∃ r, r = why s.data.toList := ⟨_, rfl⟩
  rw [← hr]
  have HC : Hid (Codec c b w) := h
  have T0 : Turn b w w := Turn.refl b w
  clear h
  unfold why at hr
  rw [toList_size] at hr
  by_cases h1 : s.size < 12
  · rw [if_pos h1] at hr
    subst hr
    have h1i : (s.size : Int) < 12 := by omega
    clear h1 hs
    go_enter Try.func21, Try.ntmps21
    go_wp2
    go_ret
    exact ⟨rfl, T0⟩
  rw [if_neg h1] at hr
  have h1i : ¬ (s.size : Int) < 12 := by omega
  have i0 : 0 < s.size := by omega
  have i1 : 1 < s.size := by omega
  have i2 : 2 < s.size := by omega
  have i3 : 3 < s.size := by omega
  have j1 : (1 : Int) < (s.size : Int) := by omega
  have j2 : (2 : Int) < (s.size : Int) := by omega
  have j3 : (3 : Int) < (s.size : Int) := by omega
  rw [at_get s 0 i0, at_get s 1 i1, at_get s 2 i2, at_get s 3 i3] at hr
  by_cases h2 : s[0] = 1
  · have hb0 : ((s[0].toNat : Int) != 1) = false := by rw [h2]; rfl
    have hm := mayBe_any s[1] s[2] s[3]
    by_cases h3 : fit s[1] s[2] s[3]
    · rw [if_neg (Decidable.not_not.2 ⟨h2, h3⟩)] at hr
      rw [decide_eq_true h3] at hm
      clear h2 h3
      have hrw := readWord_any s 4 hs (by omega)
      have hn32 := word4_lt s.data.toList 4
      have HW : Hid (∀ p, word4 s.data.toList p < 4294967296) := fun p => word4_lt _ p
      have HR : Hid (∀ p, p + 4 ≤ s.size → ∀ w, Calls Try.prog 25 #[.string s, .int .i64 (p : Int)] w fun e w' => e = .returned (.int .u32 (word4 s.data.toList p : Int)) ∧ w' = w) := fun p hp w => readWord_any s p hs hp w
      generalize hn : word4 s.data.toList 4 = n at *
      clear hn
      by_cases h4 : 1048576 < n
      · rw [if_pos h4] at hr
        subst hr
        have h4i : (1048576 : Int) < (n : Int) := by omega
        clear h1 h4 HR HW
        go_enter Try.func21, Try.ntmps21
        go_wp2
        go_quiet ((go_at_call 15; exact Calls.quiet_of_same (hm _)))
        clear hm
        go_wp2_with (go_at_call 25; refine (hrw _).mono ?_; rintro e w ⟨rfl, rfl⟩)
        go_ret
        exact ⟨rfl, T0⟩
      rw [if_neg h4] at hr
      have h4i : ¬ (1048576 : Int) < (n : Int) := by omega
      have hnw : IntKind.i64.wrap (n : Int) = (n : Int) := by rw [IntKind.wrap_i64]; omega
      by_cases h5 : s.size < 12 + n
      · rw [if_pos h5] at hr
        subst hr
        have h5i : (s.size : Int) < 8 + (n : Int) + 4 := by omega
        clear h1 h4 h5 HR HW
        go_enter Try.func21, Try.ntmps21
        go_wp2
        go_quiet ((go_at_call 15; exact Calls.quiet_of_same (hm _)))
        clear hm
        go_wp2_with (go_at_call 25; refine (hrw _).mono ?_; rintro e w ⟨rfl, rfl⟩)
        go_ret
        exact ⟨rfl, T0⟩
      rw [if_neg h5] at hr
      have h5i : ¬ (s.size : Int) < 8 + (n : Int) + 4 := by omega
      by_cases h6 : 12 + n < s.size
      · rw [if_pos h6] at hr
        subst hr
        have h6i : 8 + (n : Int) + 4 < (s.size : Int) := by omega
        clear h1 h4 h5 h6 HR HW
        go_enter Try.func21, Try.ntmps21
        go_wp2
        go_quiet ((go_at_call 15; exact Calls.quiet_of_same (hm _)))
        clear hm
        go_wp2_with (go_at_call 25; refine (hrw _).mono ?_; rintro e w ⟨rfl, rfl⟩)
        go_ret
        exact ⟨rfl, T0⟩
      rw [if_neg h6] at hr
      have h6i : ¬ 8 + (n : Int) + 4 < (s.size : Int) := by omega
      have hrw2 := HR.out (8 + n) (by omega)
      rw [show ((8 + n : Nat) : Int) = 8 + (n : Int) by omega] at hrw2
      have hxs : (s.extract 0 (8 + n)).data.toList = s.data.toList.take (8 + n) := by rw [extract_list]; simp
      have hsum := fun w hc => sum_t c b (s.extract 0 (8 + n)) (by simp [maxLen]; omega) w hc
      rw [hxs] at hsum
      have hsl : ∀ w, (Instr.slice 9 (.string s) none (some (.int .i64 (8 + (n : Int)))) none).run Try.prog w = .ok (.string (s.extract 0 (8 + n))) w := fun w => by
        rw [run_slice_string_to_if (P := Try.prog) w 9 s .i64 (8 + (n : Int)) Try.underlying9, if_pos ⟨by omega, by omega⟩]
        rw [show (8 + (n : Int)).toNat = 8 + n by omega]
      generalize s.extract 0 (8 + n) = S8 at *
      generalize more 0 (s.data.toList.take (8 + n)) = M at *
      generalize word4 s.data.toList (8 + n) = V at *
      have HR2 : Hid (r = if V ≠ M then 5 else 0) := hr
      clear hr h1 h4 h5 h6 HR HW
      have hcc : Hid (∀ w', Turn b w w' → w'.cell? ⟨c, 0, none⟩ = some (.pointer (some ⟨b, 0, none⟩))) := fun w' g => (codec_now HC.out g).2.2.1
      by_cases h7 : V = M
      · have h7i : ((V : Int) != (M : Int)) = false := by rw [h7]; simp
        have e := HR2.out
        rw [if_neg (fun hh => hh h7)] at e
        subst e
        clear HR2 h7
        go_enter Try.func21, Try.ntmps21
        go_wp2
        go_quiet ((go_at_call 15; exact Calls.quiet_of_same (hm _)))
        clear hm
        go_wp2_with (go_at_call 25; refine (hrw _).mono ?_; rintro e w ⟨rfl, rfl⟩)
        clear hrw
        go_region_held3 (fun w' => w'.cell? ⟨c, 0, none⟩ = some (.pointer (some ⟨b, 0, none⟩))) (exact hcc.out _ (by repeat (first | with_reducible assumption | with_reducible apply turn_drew | with_reducible apply turn_drewN | with_reducible apply turn_alloc))) (first
          | (go_at_call 25; refine (hrw2 _).mono ?_; rintro e w2 ⟨rfl, rfl⟩)
          | (go_at_call 18; refine (hsum _ (codec_now HC.out (by repeat (first | with_reducible assumption | with_reducible apply turn_drew | with_reducible apply turn_drewN | with_reducible apply turn_alloc)))).mono ?_; rintro e w3 ⟨rfl, H3⟩; have T3 : Turn b w w3 := Turn.trans (by repeat (first | with_reducible assumption | with_reducible apply turn_drew | with_reducible apply turn_drewN | with_reducible apply turn_alloc)) H3))
        all_goals (clear hrw2 hsum; go_wp2_with fail; go_ret; exact ⟨rfl, by with_reducible assumption⟩)
      · have h7i : ((V : Int) != (M : Int)) = true := by rw [bne_iff_ne]; omega
        have e := HR2.out
        rw [if_pos h7] at e
        subst e
        clear HR2 h7
        go_enter Try.func21, Try.ntmps21
        go_wp2
        go_quiet ((go_at_call 15; exact Calls.quiet_of_same (hm _)))
        clear hm
        go_wp2_with (go_at_call 25; refine (hrw _).mono ?_; rintro e w ⟨rfl, rfl⟩)
        clear hrw
        go_region_held3 (fun w' => w'.cell? ⟨c, 0, none⟩ = some (.pointer (some ⟨b, 0, none⟩))) (exact hcc.out _ (by repeat (first | with_reducible assumption | with_reducible apply turn_drew | with_reducible apply turn_drewN | with_reducible apply turn_alloc))) (first
          | (go_at_call 25; refine (hrw2 _).mono ?_; rintro e w2 ⟨rfl, rfl⟩)
          | (go_at_call 18; refine (hsum _ (codec_now HC.out (by repeat (first | with_reducible assumption | with_reducible apply turn_drew | with_reducible apply turn_drewN | with_reducible apply turn_alloc)))).mono ?_; rintro e w3 ⟨rfl, H3⟩; have T3 : Turn b w w3 := Turn.trans (by repeat (first | with_reducible assumption | with_reducible apply turn_drew | with_reducible apply turn_drewN | with_reducible apply turn_alloc)) H3))
        all_goals (clear hrw2 hsum; go_wp2_with fail; go_ret; exact ⟨rfl, by with_reducible assumption⟩)
    · rw [if_pos (fun hh => h3 hh.2)] at hr
      subst hr
      rw [decide_eq_false h3] at hm
      clear h2 h3 h1
      go_enter Try.func21, Try.ntmps21
      go_wp2
      go_quiet ((go_at_call 15; exact Calls.quiet_of_same (hm _)))
      go_wp2
      go_ret
      exact ⟨rfl, T0⟩
  · rw [if_pos (fun hh => h2 hh.1)] at hr
    subst hr
    have hb0 := bne_u8 h2
    clear h2 h1
    go_enter Try.func21, Try.ntmps21
    go_wp2
    go_quiet (fail)
    go_wp2
    go_ret
    exact ⟨rfl, T0⟩
end Go.Proofs.Ytffobfjknbgglaa
