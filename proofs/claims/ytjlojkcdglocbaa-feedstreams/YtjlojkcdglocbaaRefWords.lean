/- The contracts of the reference's Words and Bad: the line's words as a row; a command that is none. The line has at most 5000 bytes. They turn nothing that was there. -/
import Derived.Test.YtjlojkcdglocbaaRefNum
namespace Go.Proofs.Ytjlojkcdglocbaa
open Go.ChangeShapes Go.WideShapes Go.ChangeAt Go.RowKit
set_option linter.unusedVariables false
set_option linter.unusedSimpArgs false

/- How far the words are read: k bytes, the word at hand from f on. -/
def WInv (s : ByteArray) (k f : Nat) (acc : List ByteArray) : Prop :=
  (k ≤ s.size ∧ f ≤ k ∧ acc ++ (spl (Lib.pieceU s.data.toList f k) (s.data.toList.drop k)).map ba = words s) ∨ (k = s.size + 1 ∧ f = s.size + 1 ∧ acc = words s)
theorem winv_0 (s : ByteArray) : WInv s 0 0 [] := by
  refine .inl ⟨Nat.zero_le _, Nat.le_refl _, ?_⟩
  simp [Lib.pieceU, words, wordsL]
theorem piece_ba (s : ByteArray) (f k : Nat) : ba (Lib.pieceU s.data.toList f k) = s.extract f k := by
  have h1 := Lib.extract_toList s f k
  rw [Lib.toList_data] at h1
  unfold Lib.pieceU
  rw [← h1]
  unfold ba
  cases s.extract f k
  rfl
theorem piece_nil (s : ByteArray) (f k : Nat) (h : ¬ f < k) : Lib.pieceU s.data.toList f k = [] := by
  unfold Lib.pieceU
  rw [show k - f = 0 by omega]
  simp
theorem piece_some (s : ByteArray) (f k : Nat) (h : f < k) (hk : k ≤ s.size) : (Lib.pieceU s.data.toList f k).isEmpty = false := by
  have := Lib.pieceU_ne s.data.toList f k h (by rw [← Lib.size_eq]; exact hk)
  cases hp : Lib.pieceU s.data.toList f k with
  | nil => exact absurd hp this
  | cons a t => rfl
theorem winv_mid {s : ByteArray} {k f : Nat} {acc : List ByteArray} (h : WInv s k f acc) (hk : k ≤ s.size) : f ≤ k ∧ acc ++ (spl (Lib.pieceU s.data.toList f k) (s.data.toList.drop k)).map ba = words s := by
  rcases h with h | h
  · exact h.2
  · omega
theorem drop_end (s : ByteArray) : s.data.toList.drop s.size = [] := List.drop_eq_nil_of_le (by rw [← Lib.size_eq]; exact Nat.le_refl _)
theorem words_end (s : ByteArray) (f : Nat) (acc : List ByteArray) (h : WInv s s.size f acc) (hf : f < s.size) : WInv s (s.size + 1) (s.size + 1) (acc ++ [s.extract f s.size]) := by
  have := (winv_mid h (Nat.le_refl _)).2
  rw [drop_end, spl, piece_some s f _ hf (Nat.le_refl _)] at this
  simp only [Bool.false_eq_true, if_false, List.map_cons, List.map_nil, piece_ba] at this
  exact .inr ⟨rfl, rfl, this⟩
theorem words_end0 (s : ByteArray) (f : Nat) (acc : List ByteArray) (h : WInv s s.size f acc) (hf : ¬ f < s.size) : WInv s (s.size + 1) (s.size + 1) acc := by
  have := (winv_mid h (Nat.le_refl _)).2
  rw [drop_end, spl, piece_nil s f _ hf] at this
  simp at this
  exact .inr ⟨rfl, rfl, this⟩
theorem drop_at (s : ByteArray) (k : Nat) (h : k < s.size) : s.data.toList.drop k = s[k] :: s.data.toList.drop (k + 1) := by
  have hl : k < s.data.toList.length := by rw [← Lib.size_eq]; exact h
  rw [List.drop_eq_getElem_cons hl]
  rfl
theorem piece_new (s : ByteArray) (k : Nat) : Lib.pieceU s.data.toList (k + 1) (k + 1) = [] := piece_nil s _ _ (by omega)
theorem words_blank (s : ByteArray) (k f : Nat) (acc : List ByteArray) (h : WInv s k f acc) (hk : k < s.size) (hb : (s[k].toNat : Int) = 32) (hf : f < k) : WInv s (k + 1) (k + 1) (acc ++ [s.extract f k]) := by
  have := (winv_mid h (by omega)).2
  have hb' : s[k] = 32 := UInt8.toNat_inj.1 (by have : (32 : UInt8).toNat = 32 := rfl; omega)
  rw [drop_at s k hk, hb', spl, if_pos rfl, piece_some s f k hf (by omega)] at this
  simp only [Bool.false_eq_true, if_false, List.map_cons, piece_ba] at this
  refine .inl ⟨by omega, Nat.le_refl _, ?_⟩
  rw [piece_new, List.append_assoc]
  exact this
theorem words_blank0 (s : ByteArray) (k f : Nat) (acc : List ByteArray) (h : WInv s k f acc) (hk : k < s.size) (hb : (s[k].toNat : Int) = 32) (hf : ¬ f < k) : WInv s (k + 1) (k + 1) acc := by
  have := (winv_mid h (by omega)).2
  have hb' : s[k] = 32 := UInt8.toNat_inj.1 (by have : (32 : UInt8).toNat = 32 := rfl; omega)
  rw [drop_at s k hk, hb', spl, if_pos rfl, piece_nil s f k hf] at this
  refine .inl ⟨by omega, Nat.le_refl _, ?_⟩
  rw [piece_new]
  exact this
theorem words_more (s : ByteArray) (k f : Nat) (acc : List ByteArray) (h : WInv s k f acc) (hk : k < s.size) (hb : ¬ (s[k].toNat : Int) = 32) : WInv s (k + 1) f acc := by
  have hm := winv_mid h (by omega)
  have := hm.2
  have hb' : ¬ s[k] = 32 := fun e => hb (by rw [e]; rfl)
  rw [drop_at s k hk, spl, if_neg hb'] at this
  refine .inl ⟨by omega, by omega, ?_⟩
  have hg := Lib.pieceU_grow s.data.toList f k 1 hm.1
  rw [drop_at s k hk] at hg
  simp only [List.take_succ_cons, List.take_zero] at hg
  rw [← hg]
  exact this
theorem words_done (s : ByteArray) (k f : Nat) (acc : List ByteArray) (h : WInv s k f acc) (hk : k = s.size + 1) : acc = words s := by
  rcases h with h | h
  · omega
  · exact h.2.2
set_option maxHeartbeats 3200000 in
set_option maxRecDepth 100000 in
theorem Words_any (s : ByteArray) (hs : s.size ≤ 5000) (w : World) :
    Calls Try.prog 21 #[.string s] w fun e w' => ∃ v, e = .returned v ∧ Keys w' v (words s) ∧ Kept w w' := by
  obtain ⟨i0, hi, hz0, hz1, hz2⟩ := info_parts (P := Try.prog) (e := 9) (show (Try.prog.info? 9).map (fun i => (i.zero, i.size, i.bytes)) = some (some (.string ⟨#[]⟩), 1, 16) by kernel_rfl)
  have HI := hid (And.intro hi (And.intro hz0 (And.intro hz1 hz2)))
  have HO0 := hid (World.ownsRow_lit (base := w.heap.size) (e := 9) (size := 1) w #[] 0 (Nat.le_refl _) (by unfold maxLen; omega) (by simp))
  have HB0 : Hid (Below w.heap.size w (w.alloc (.cells #[] 9))) := (Below.refl _ w).alloc (Nat.le_refl _) _
  have HBK : Hid (∀ u, Below w.heap.size w u → Kept w u ∧ w.heap.size ≤ u.heap.size) := fun u h => ⟨kept_below h, h.size⟩
  have HK0 : Hid (Kept w w) := kept_refl w
  have HS := hid hs
  clear hi hz0 hz1 hz2
  go_enter Try.func21, Try.ntmps21
  go_wp2_with fail
  generalize w.alloc (.cells #[] 9) = W0 at *
  generalize w.heap.size = B at *
  go_loopw [3, 4, 5] (fun so sf j wr => ∃ (k f : Nat) (acc : List ByteArray), k ≤ s.size + 1 ∧ j = .int .i64 k ∧ sf = .int .i64 f ∧ Hid (wr.ownsRow B 9 1 so acc.length (acc.map Value.string)) ∧ Hid (Below B w wr) ∧ Hid (WInv s k f acc) ∧ Hid (acc.length ≤ k)) (fun _ _ j _ => s.size + 1 - (intOf j).toNat)
  case atStart => exact ⟨0, 0, [], Nat.zero_le _, rfl, rfl, HO0, HB0, winv_0 s, Nat.zero_le _⟩
  case round =>
    obtain ⟨k, f, acc, hk, rfl, rfl, HO, HB, HW, HAL⟩ := hrel
    by_cases hks : k = s.size
    · subst hks
      by_cases hf : f < s.size
      · have HN := hid (words_end s f acc HW.out hf)
        have hf' : (f : Int) < (s.size : Int) := by omega
        go_wp2_with (at_builtin; go_must (refine wpList_append_own _ rfl (.tmp 26) (.tmp 31) 35 rfl B 9 i0 (.string ⟨#[]⟩) 1 16 Try.underlying35 HI.out.1 HI.out.2.1 HI.out.2.2.1 HI.out.2.2.2 rfl (by decide) _ _ _ rfl (HO.out.alloc (.cells #[.string (s.extract f s.size)] 9)) ⟨wr.heap.size, 0, none⟩ 1 1 [.string (s.extract f s.size)] rfl rfl (one_cell _ _ _) (by intro u hu; simp at hu; subst hu; rfl) (by unfold maxLen; have := HAL.out; omega) (by have := HAL.out; omega) (by have := (HBK.out _ HB.out).2; simp; omega) ?_; intro v3 w3 hown3 hgrow3 hnil3))
        go_roundw
        case rel =>
          refine ⟨s.size + 1, s.size + 1, acc ++ [s.extract f s.size], by omega, by go_num, by go_num, ?_, ?_, HN, ?_⟩
          · show w3.ownsRow B 9 1 v3 (acc ++ [s.extract f s.size]).length ((acc ++ [s.extract f s.size]).map Value.string); rw [List.length_append, List.map_append]; exact hown3
          · exact (HB.out.alloc (HBK.out _ HB.out).2 _).grown hgrow3 (by have := (HBK.out _ HB.out).2; simp; omega) (fun j hj => ((HO.out.alloc (.cells #[.string (s.extract f s.size)] 9)).lt j hj).1)
          · show _ ≤ _; have := HAL.out; simp; omega
        case measure => simp [intOf] <;> omega
      · have HN := hid (words_end0 s f acc HW.out hf)
        have hf' : ¬ (f : Int) < (s.size : Int) := by omega
        go_wp2_with fail
        go_roundw
        case rel => exact ⟨s.size + 1, s.size + 1, acc, by omega, by go_num, by go_num, HO, HB, HN, by show acc.length ≤ s.size + 1; have := HAL.out; omega⟩
        case measure => simp [intOf] <;> omega
    · by_cases hlt : k < s.size
      · have e1 : ((k : Int) == (s.size : Int)) = false := by simp; omega
        have e3 : (k : Int) ≤ (s.size : Int) := by omega
        by_cases hb : (s[k].toNat : Int) = 32
        · have e2 : ((s[k].toNat : Int) == 32) = true := by simpa using hb
          by_cases hf : f < k
          · have HN := hid (words_blank s k f acc HW.out hlt hb hf)
            have hf' : (f : Int) < (k : Int) := by omega
            go_wp2_with (at_builtin; go_must (refine wpList_append_own _ rfl (.tmp 26) (.tmp 31) 35 rfl B 9 i0 (.string ⟨#[]⟩) 1 16 Try.underlying35 HI.out.1 HI.out.2.1 HI.out.2.2.1 HI.out.2.2.2 rfl (by decide) _ _ _ rfl (HO.out.alloc (.cells #[.string (s.extract f k)] 9)) ⟨wr.heap.size, 0, none⟩ 1 1 [.string (s.extract f k)] rfl rfl (one_cell _ _ _) (by intro u hu; simp at hu; subst hu; rfl) (by unfold maxLen; have := HAL.out; omega) (by have := HAL.out; omega) (by have := (HBK.out _ HB.out).2; simp; omega) ?_; intro v3 w3 hown3 hgrow3 hnil3))
            go_roundw
            case rel =>
              refine ⟨k + 1, k + 1, acc ++ [s.extract f k], by omega, by go_num, by go_num, ?_, ?_, HN, ?_⟩
              · show w3.ownsRow B 9 1 v3 (acc ++ [s.extract f k]).length ((acc ++ [s.extract f k]).map Value.string); rw [List.length_append, List.map_append]; exact hown3
              · exact (HB.out.alloc (HBK.out _ HB.out).2 _).grown hgrow3 (by have := (HBK.out _ HB.out).2; simp; omega) (fun j hj => ((HO.out.alloc (.cells #[.string (s.extract f k)] 9)).lt j hj).1)
              · show _ ≤ _; have := HAL.out; simp; omega
            case measure => simp [intOf] <;> omega
          · have HN := hid (words_blank0 s k f acc HW.out hlt hb hf)
            have hf' : ¬ (f : Int) < (k : Int) := by omega
            go_wp2_with fail
            go_roundw
            case rel => exact ⟨k + 1, k + 1, acc, by omega, by go_num, by go_num, HO, HB, HN, by show acc.length ≤ k + 1; have := HAL.out; omega⟩
            case measure => simp [intOf] <;> omega
        · have e2 : ((s[k].toNat : Int) == 32) = false := by simpa using hb
          have HN := hid (words_more s k f acc HW.out hlt hb)
          go_wp2_with fail
          go_roundw
          case rel => exact ⟨k + 1, f, acc, by omega, by go_num, rfl, HO, HB, HN, by show acc.length ≤ k + 1; have := HAL.out; omega⟩
          case measure => simp [intOf] <;> omega
      · have hlast : k = s.size + 1 := by omega
        subst hlast
        have hn : ¬ ((s.size + 1 : Nat) : Int) ≤ (s.size : Int) := by omega
        have HE := hid (words_done s _ f acc HW.out rfl)
        have HKO := hid (keys_own HO.out)
        have HKp := hid (HBK.out _ HB.out).1
        clear hks hlt
        go_wp2_with fail
        go_ret
        exact ⟨_, rfl, by rw [← HE.out]; exact HKO.out.1, kept_trans HK0.out HKp.out⟩
theorem two_text {w : World} {B : Nat} (h : At w B #[.int .u8 13, .int .u8 10] 5) : (convert 43 9 (.slice (some ⟨B, 0, none⟩) 2 2)).run Try.prog w = .ok (.string ⟨#[13, 10]⟩) w :=
  run_convert_bytes_back (P := Try.prog) w 43 9 5 ⟨B, 0, none⟩ 2 [13, 10] Try.underlying43 Try.underlying5 Try.underlying9 (fun j hj => by
    have h2 : j = 0 ∨ j = 1 := by simp at hj; omega
    rcases h2 with rfl | rfl
    · have := at_cell h 0
      simpa [Addr.add] using this
    · have := at_cell h 1
      simpa [Addr.add] using this)
theorem Bad_any (r : ByteArray) (hr : r.size ≤ 1000) (w : World) :
    Calls Try.prog 19 #[.string r] w fun e w' => e = .returned (.agg #[.int .i64 8, .slice none 0 0, .int .u32 0, .int .i64 0, .string ⟨#[]⟩, .bool false, .string (r ++ ⟨#[13, 10]⟩)]) ∧ Kept w w' := by
  have hz := zero26
  have hcv := two_text (at_new (w.alloc (.cells #[.int .i64 0, .slice none 0 0, .int .u32 0, .int .i64 0, .string ⟨#[]⟩, .bool false, .string ⟨#[]⟩] 38)) #[.int .u8 13, .int .u8 10] 5)
  simp only [World.size_alloc] at hcv
  go_enter Try.func19, Try.ntmps19
  go_wp2_with fail
  refine bodyPost_ret (res1 rfl _ rfl (at_alloc (at_new w _ 38) _)) rfl ?_
  exact ⟨rfl, kept_alloc (kept_alloc (kept_refl w) _) _⟩
theorem app_err : (⟨#[69, 82, 82, 79, 82]⟩ : ByteArray) ++ ⟨#[13, 10]⟩ = rErr := by apply ByteArray.ext; simp [rErr]
theorem app_fmt : (⟨#[67, 76, 73, 69, 78, 84, 95, 69, 82, 82, 79, 82, 32, 98, 97, 100, 32, 99, 111, 109, 109, 97, 110, 100, 32, 108, 105, 110, 101, 32, 102, 111, 114, 109, 97, 116]⟩ : ByteArray) ++ ⟨#[13, 10]⟩ = rFmt := by apply ByteArray.ext; simp [rFmt]
theorem app_big : (⟨#[83, 69, 82, 86, 69, 82, 95, 69, 82, 82, 79, 82, 32, 111, 98, 106, 101, 99, 116, 32, 116, 111, 111, 32, 108, 97, 114, 103, 101, 32, 102, 111, 114, 32, 99, 97, 99, 104, 101]⟩ : ByteArray) ++ ⟨#[13, 10]⟩ = rBig := by apply ByteArray.ext; simp [rBig]
theorem Bad_err (w : World) : Calls Try.prog 19 #[.string ⟨#[69, 82, 82, 79, 82]⟩] w fun e w' => e = .returned (.agg #[.int .i64 8, .slice none 0 0, .int .u32 0, .int .i64 0, .string ⟨#[]⟩, .bool false, .string rErr]) ∧ Kept w w' := by
  rw [← app_err]; exact Bad_any _ (by decide) w
theorem Bad_fmt (w : World) : Calls Try.prog 19 #[.string ⟨#[67, 76, 73, 69, 78, 84, 95, 69, 82, 82, 79, 82, 32, 98, 97, 100, 32, 99, 111, 109, 109, 97, 110, 100, 32, 108, 105, 110, 101, 32, 102, 111, 114, 109, 97, 116]⟩] w fun e w' => e = .returned (.agg #[.int .i64 8, .slice none 0 0, .int .u32 0, .int .i64 0, .string ⟨#[]⟩, .bool false, .string rFmt]) ∧ Kept w w' := by
  rw [← app_fmt]; exact Bad_any _ (by decide) w
theorem Bad_big (w : World) : Calls Try.prog 19 #[.string ⟨#[83, 69, 82, 86, 69, 82, 95, 69, 82, 82, 79, 82, 32, 111, 98, 106, 101, 99, 116, 32, 116, 111, 111, 32, 108, 97, 114, 103, 101, 32, 102, 111, 114, 32, 99, 97, 99, 104, 101]⟩] w fun e w' => e = .returned (.agg #[.int .i64 8, .slice none 0 0, .int .u32 0, .int .i64 0, .string ⟨#[]⟩, .bool false, .string rBig]) ∧ Kept w w' := by
  rw [← app_big]; exact Bad_any _ (by decide) w
end Go.Proofs.Ytjlojkcdglocbaa
