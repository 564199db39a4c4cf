/- Contracts of the New, More and Sum of the program's tables and of the reference's. A text has at most as many bytes as a text may have; a table is a new one, a made one or none. -/
import Derived.Test.YtffobfjknbgglaaOnce
import Derived.Deep.QuietTactic
import Derived.BigQuiet
namespace Go.Proofs.Ytffobfjknbgglaa
open Go.ChangeShapes Go.WideShapes Go.ChangeAt Go.RowKit
set_option linter.unusedVariables false

def zeros : Array Value := #[.int .u32 0, .int .i32 0, .int .u32 0] ++ Array.replicate 256 (.int .u32 0)
theorem zero67 (w : World) : (zeroValue 67).run Try.prog w = .ok (.agg zeros) w := by kernel_rfl
set_option maxRecDepth 100000 in
theorem new_any (w : World) :
    Calls Try.prog 14 #[] w fun e w' => e = .returned (.pointer (some ⟨w.heap.size, 0, none⟩)) ∧ ∃ c, w' = w.alloc (.cells c 67) ∧ Fresh w.heap.size w' := by
  have hz := zero67
  go_enter Try.func14, Try.ntmps14
  go_wp2
  go_ret
  refine ⟨rfl, zeros, rfl, ?_⟩
  have hc : ∀ i, (w.alloc (.cells zeros 67)).cell? ⟨w.heap.size, i, none⟩ = zeros[i]? := fun i => by simp
  refine ⟨(hc 0).trans (by simp [zeros]), (hc 1).trans (by simp [zeros]), fun i hi => ⟨.int .u32 0, (hc _).trans ?_⟩, fun i => ?_⟩
  · rw [zeros, Array.getElem?_append_right (by simp <;> omega)]
    rw [Array.getElem?_replicate, if_pos (by simp only [List.size_toArray, List.length_cons, List.length_nil]; omega)]
  · rw [frozen?_alloc_cells]
    simp [World.frozen?]

theorem notx (x : Nat) (h : x < 4294967296) : bits .xor .u32 IntKind.u32.max (x : Int) = ((x ^^^ 4294967295 : Nat) : Int) := by
  have := u32_xor_nat 4294967295 x (by omega) h
  rw [Nat.xor_comm] at this
  exact this
theorem take_snoc (s : ByteArray) (k : Nat) (h : k < s.size) : s.data.toList.take (k + 1) = s.data.toList.take k ++ [s[k]] := by
  rw [List.take_succ_eq_append_getElem (by simpa using h)]; rfl
theorem more_nil (x : Int) (s : ByteArray) (w : World) :
    Calls Try.prog 17 #[.pointer none, .int .u32 x, .string s] w fun e w' => e = .returned (.int .u32 0) ∧ w' = w := by
  go_enter Try.func17, Try.ntmps17
  go_wp2
  go_ret
  exact ⟨rfl, rfl⟩
set_option maxRecDepth 100000 in
theorem more_any (b : Nat) (x : Nat) (hx : x < 4294967296) (s : ByteArray) (hs : s.size ≤ maxLen) (w : World) (h : Tab b w) :
    Calls Try.prog 17 #[.pointer (some ⟨b, 0, none⟩), .int .u32 x, .string s] w fun e w' => e = .returned (.int .u32 (more x s.data.toList)) ∧ Only b w w' ∧ Made b w' := by
  unfold maxLen at hs
  have HH : Hid (Tab b w) := h
  clear h
  have hn := notx x hx
  have hx1 : x ^^^ 4294967295 < 4294967296 := xor_lt hx (by omega)
  have HM : Hid (more x s.data.toList = fol (x ^^^ 4294967295) s.data.toList ^^^ 4294967295) := rfl
  generalize more x s.data.toList = R at *
  generalize x ^^^ 4294967295 = x1 at *
  go_enter Try.func17, Try.ntmps17
  go_wp2_with (go_at_call 23; refine (made_any b _ HH.out).mono ?_; rintro e w1 ⟨rfl, hO1, hM1⟩)
  have HO1 : Hid (Only b w w1) := hO1
  have HM1 : Hid (Made b w1) := hM1
  clear hO1 hM1
  go_loopw [8, 18] (fun y j wr => ∃ k : Nat, k ≤ s.size ∧ j = .int .i64 k ∧ y = .int .u32 (fol x1 (s.data.toList.take k)) ∧ Hid (Only b w wr) ∧ Hid (Made b wr)) (fun _ j _ => s.size - (intOf j).toNat)
  case atStart => exact ⟨0, Nat.zero_le _, rfl, rfl, HO1, HM1⟩
  case round =>
    obtain ⟨k, hk, rfl, rfl, HO, HD⟩ := hrel
    by_cases hlt : k < s.size
    · have HS : Hid (fol x1 (s.data.toList.take (k + 1)) = eig (fol x1 (s.data.toList.take k) ^^^ s[k].toNat)) := by
        show _ = _
        rw [take_snoc s k hlt, fol_snoc]
      have hy := fol_lt (s.data.toList.take k) hx1
      generalize hh : fol x1 (s.data.toList.take k) = y at *
      clear hh
      have hc := u8_lt s[k]
      obtain ⟨m, hm, hwb⟩ : ∃ m : Nat, m = y % 256 ∧ IntKind.u8.wrap (y : Int) = (m : Int) := ⟨y % 256, rfl, by rw [IntKind.wrap_u8]; omega⟩
      have hm256 : m < 256 := by omega
      obtain ⟨i, hi, hxb⟩ : ∃ i : Nat, i = m ^^^ s[k].toNat ∧ bits .xor .u8 (m : Int) (s[k].toNat : Int) = (i : Int) := ⟨_, rfl, u8_xor_nat _ _ hm256 hc⟩
      have hi256 : i < 256 := by rw [hi]; exact Nat.xor_lt_two_pow (n := 8) hm256 hc
      have hcell := HD.out.2 i hi256
      have HE : Hid (eig (y ^^^ s[k].toNat) = eig i ^^^ y / 256) := by
        show _ = _
        rw [eig_table, hi, hm]
      have HX : Hid (bits .xor .u32 (eig i : Int) ((y : Int) / 256) = ((eig i ^^^ y / 256 : Nat) : Int)) := u32_xor_nat _ (y / 256) (eig_lt (by omega)) (by omega)
      have hm' : Hid (m = y % 256) := hm
      have hi' : Hid (i = m ^^^ s[k].toNat) := hi
      clear hm hi hc
      go_wp2
      go_quiet (fail)
      go_wp2
      go_roundw
      case rel => exact ⟨k + 1, by omega, by go_num, by rw [HS.out, HE.out, HX.out], HO, HD⟩
      case measure => simp [intOf]; omega
    · have hkk : k = s.size := by omega
      subst hkk
      rw [List.take_of_length_le (by simp)]
      have hn := notx _ (fol_lt s.data.toList hx1)
      go_wp2
      go_ret
      exact ⟨by rw [HM.out]; rfl, HO.out, HD.out⟩

theorem sum_nil (s : ByteArray) (w : World) :
    Calls Try.prog 18 #[.pointer none, .string s] w fun e w' => e = .returned (.int .u32 0) ∧ w' = w := by
  go_enter Try.func18, Try.ntmps18
  go_wp2_with (go_at_call 17; refine (more_nil _ _ _).mono ?_; rintro e w' ⟨rfl, rfl⟩)
  go_ret
  exact ⟨rfl, rfl⟩
theorem sum_any (b : Nat) (s : ByteArray) (hs : s.size ≤ maxLen) (w : World) (h : Tab b w) :
    Calls Try.prog 18 #[.pointer (some ⟨b, 0, none⟩), .string s] w fun e w' => e = .returned (.int .u32 (more 0 s.data.toList)) ∧ Only b w w' ∧ Made b w' := by
  have HH : Hid (Tab b w) := h
  clear h
  go_enter Try.func18, Try.ntmps18
  go_wp2_with (go_at_call 17; refine (more_any b 0 (by omega) s hs _ HH.out).mono ?_; rintro e w' ⟨rfl, hO, hM⟩)
  go_ret
  exact ⟨rfl, hO, hM⟩
theorem refmore_any (x : Nat) (hx : x < 4294967296) (s : ByteArray) (hs : s.size ≤ maxLen) (w : World) :
    Calls Try.prog 24 #[.int .u32 x, .string s] w fun e w' => e = .returned (.int .u32 (more x s.data.toList)) ∧ w' = w := by
  unfold maxLen at hs
  have hn : bits .xor .u32 (x : Int) 4294967295 = ((x ^^^ 4294967295 : Nat) : Int) := u32_xor_nat x 4294967295 hx (by omega)
  have hx1 : x ^^^ 4294967295 < 4294967296 := xor_lt hx (by omega)
  have HM : Hid (more x s.data.toList = fol (x ^^^ 4294967295) s.data.toList ^^^ 4294967295) := rfl
  generalize more x s.data.toList = R at *
  generalize x ^^^ 4294967295 = x1 at *
  go_enter Try.func24, Try.ntmps24
  go_wp2
  go_loop [5, 6] (fun y j => ∃ k : Nat, k ≤ s.size ∧ j = .int .i64 k ∧ y = .int .u32 (fol x1 (s.data.toList.take k))) (fun _ j => s.size - (intOf j).toNat)
  case atStart => exact ⟨0, Nat.zero_le _, rfl, rfl⟩
  case round =>
    obtain ⟨k, hk, rfl, rfl⟩ := hrel
    by_cases hlt : k < s.size
    · have HS : Hid (fol x1 (s.data.toList.take (k + 1)) = eig (fol x1 (s.data.toList.take k) ^^^ s[k].toNat)) := by
        show _ = _
        rw [take_snoc s k hlt, fol_snoc]
      have hy := fol_lt (s.data.toList.take k) hx1
      generalize hh : fol x1 (s.data.toList.take k) = y at *
      clear hh
      have hc := u8_lt s[k]
      have hw2 : IntKind.u32.wrap (s[k].toNat : Int) = (s[k].toNat : Int) := by rw [IntKind.wrap_u32]; omega
      have hz : y ^^^ s[k].toNat < 4294967296 := xor_lt hy (by omega)
      have hxx : bits .xor .u32 (y : Int) (s[k].toNat : Int) = ((y ^^^ s[k].toNat : Nat) : Int) := u32_xor_nat _ _ hy (by omega)
      generalize y ^^^ s[k].toNat = z at *
      go_wp2_with (go_at_call 29; refine (refeight_any z hz _).mono ?_; rintro e w' ⟨rfl, rfl⟩)
      go_round
      case rel => exact ⟨k + 1, by omega, by go_num, by rw [HS.out]⟩
      case measure => simp [intOf]; omega
    · have hkk : k = s.size := by omega
      subst hkk
      rw [List.take_of_length_le (by simp)]
      have hm : bits .xor .u32 (fol x1 s.data.toList : Int) 4294967295 = ((fol x1 s.data.toList ^^^ 4294967295 : Nat) : Int) := u32_xor_nat _ 4294967295 (fol_lt s.data.toList hx1) (by omega)
      go_wp2
      go_ret
      exact ⟨by rw [HM.out]; rfl, rfl⟩
theorem refsum_any (s : ByteArray) (hs : s.size ≤ maxLen) (w : World) :
    Calls Try.prog 20 #[.string s] w fun e w' => e = .returned (.int .u32 (more 0 s.data.toList)) ∧ w' = w := by
  go_enter Try.func20, Try.ntmps20
  go_wp2_with (go_at_call 24; refine (refmore_any 0 (by omega) s hs _).mono ?_; rintro e w' ⟨rfl, rfl⟩)
  go_ret
  exact ⟨rfl, rfl⟩
end Go.Proofs.Ytffobfjknbgglaa
