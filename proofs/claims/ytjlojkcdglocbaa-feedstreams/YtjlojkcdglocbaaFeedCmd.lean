/- The contract of the feed's command: what a line says is told, or its data is read or passed. -/
import Derived.Test.YtjlojkcdglocbaaFeedMid3
namespace Go.Proofs.Ytjlojkcdglocbaa
open Go.ChangeShapes Go.WideShapes Go.ChangeAt Go.RowKit
set_option linter.unusedVariables false
set_option linter.unusedSimpArgs false

theorem at_otherF7 {w : World} {F X T : Nat} {cs : Array Value} (h : At w X cs T) (hn : X ≠ F) (a0 a1 a2 a3 a4 a5 a6 : Value) : At (setF7 w F a0 a1 a2 a3 a4 a5 a6) X cs T := (heap_setF7 a0 a1 a2 a3 a4 a5 a6 hn).trans h
set_option maxHeartbeats 1600000 in
set_option maxRecDepth 100000 in
theorem cmd_quit (B F : Nat) (kv : Value) (st : Cm) (left : Nat) (s : ByteArray) (c : Cm) (d : Int) (h7 : (c.kind == 7) = true) (w : World) (g : FA B F w .line (.slice none 0 0) kv st left [])
    (hP : ∀ w, Calls Try.prog 33 #[.string s] w fun e w' => ∃ kp, e = .returned (.tuple #[.agg #[.int .i64 c.kind, kp, .int .u32 c.flags, .int .i64 c.exp, .string ⟨#[]⟩, .bool c.quiet, .string c.reply], .int .i64 d]) ∧ Keys w' kp c.keys ∧ Kept w w') :
    Calls Try.prog 26 #[.pointer (some ⟨F, 0, none⟩), .string s] w fun e w' => ∃ kt, e = .returned (.agg #[.int .i64 (c : Cm).kind, kt, .int .u32 (c : Cm).flags, .int .i64 (c : Cm).exp, .string ⟨#[]⟩, .bool (c : Cm).quiet, .string (c : Cm).reply]) ∧ Keys w' kt (c : Cm).keys ∧ (∃ kv', FA B F w' .over (.slice none 0 0) kv' st left []) ∧ Fr B F w w' := by
  have hz := zero26
  have HP := hid hP
  have HX : Hid (At (w.alloc (.cells #[.int .i64 0, .slice none 0 0, .int .u32 0, .int .i64 0, .string ⟨#[]⟩, .bool false, .string ⟨#[]⟩] 38)) w.heap.size #[.int .i64 0, .slice none 0 0, .int .u32 0, .int .i64 0, .string ⟨#[]⟩, .bool false, .string ⟨#[]⟩] 38) := at_new _ _ _
  have HN : Hid (w.heap.size ≠ F) := by have := at_lt g.2.1; show _ ≠ _; omega
  have HR : Hid (Fr B F w (w.alloc (.cells #[.int .i64 0, .slice none 0 0, .int .u32 0, .int .i64 0, .string ⟨#[]⟩, .bool false, .string ⟨#[]⟩] 38))) := fr_alloc (fr_refl B F w) _
  have HY : Hid (∀ (u : World) (a0 a1 a2 a3 a4 a5 a6 : Value), Fr B F w u → Fr B F w (set7 u w.heap.size a0 a1 a2 a3 a4 a5 a6)) := fun u a0 a1 a2 a3 a4 a5 a6 h => fr_set7 h (Nat.le_refl _) _ _ _ _ _ _ _
  have HG := hid (fa_alloc g (.cells #[.int .i64 0, .slice none 0 0, .int .u32 0, .int .i64 0, .string ⟨#[]⟩, .bool false, .string ⟨#[]⟩] 38))
  clear g hP
  go_enter Try.func26, Try.ntmps26
  go_wp2_with fail
  generalize w.alloc (.cells #[.int .i64 0, .slice none 0 0, .int .u32 0, .int .i64 0, .string ⟨#[]⟩, .bool false, .string ⟨#[]⟩] 38) = wa at *
  generalize w.heap.size = X at *
  refine (HP.out _).mono ?_
  rintro e w1 ⟨kp, rfl, hk1, hkept⟩
  obtain ⟨ka, km, kc, rfl⟩ := keys_slice hk1
  have hXF : X ≠ F := HN.out
  have hFX : F ≠ X := fun e => HN.out e.symm
  have HX1 := hid (at_kept HX.out hkept)
  have HR1 := hid (fr_trans HR.out (fr_kept (B := B) (F := F) hkept))
  have g1 := fa_kept HG.out hkept
  have HX2 : Hid (At (w1.setCell ⟨F, 0, none⟩ .nilFunc) X #[.int .i64 0, .slice none 0 0, .int .u32 0, .int .i64 0, .string ⟨#[]⟩, .bool false, .string ⟨#[]⟩] 38) := at_other HX1.out HN.out _ _
  have HG2 := hid (fa_next g1 .over)
  have HR2 : Hid (Fr B F w (w1.setCell ⟨F, 0, none⟩ .nilFunc)) := fr_set HR1.out _ _
  have HK1 := hid hk1
  have HT := hid (fa_text g1)
  have HK2 : Hid (Keys (w1.setCell ⟨F, 0, none⟩ .nilFunc) (.slice ka km kc) c.keys) := keys_setc hk1 (fa_text g1)
  obtain ⟨c0, c1, c2, c3, c4, c5, c6, c7, c8, c9, cf⟩ := at_cells10 g1.2.1
  have hl := at_lt g1.2.1
  obtain ⟨d0, d1, d2, d3, d4, d5, d6, df⟩ := at_cells7 HX1.out
  have hlX := at_lt HX1.out
  clear g1 hk1 hkept HX HR HG HP
  go_wp2_with fail
  refine bodyPost_ret (res1 rfl _ rfl (at_alloc (at_set7 HX2.out _ _ _ _ _ _ _) _)) rfl ?_
  exact ⟨_, rfl, keys_kept (keys_set7' HK2.out HX2.out _ _ _ _ _ _ _) (kept_alloc (kept_refl _) _), ⟨_, fa_alloc (fa_res HG2.out HX2.out _ _ _ _ _ _ _) _⟩, fr_alloc (HY.out _ _ _ _ _ _ _ _ HR2.out) _⟩
set_option maxHeartbeats 1600000 in
set_option maxRecDepth 100000 in
theorem cmd_set (B F : Nat) (kv : Value) (st : Cm) (left : Nat) (s : ByteArray) (c : Cm) (n : Nat) (h7 : (c.kind == 7) = false) (h2 : (c.kind == 2) = true) (w : World) (g : FA B F w .line (.slice none 0 0) kv st left [])
    (hP : ∀ w, Calls Try.prog 33 #[.string s] w fun e w' => ∃ kp, e = .returned (.tuple #[.agg #[.int .i64 c.kind, kp, .int .u32 c.flags, .int .i64 c.exp, .string ⟨#[]⟩, .bool c.quiet, .string c.reply], .int .i64 (n : Int)]) ∧ Keys w' kp c.keys ∧ Kept w w') :
    Calls Try.prog 26 #[.pointer (some ⟨F, 0, none⟩), .string s] w fun e w' => ∃ kt, e = .returned (.agg #[.int .i64 (zc : Cm).kind, kt, .int .u32 (zc : Cm).flags, .int .i64 (zc : Cm).exp, .string ⟨#[]⟩, .bool (zc : Cm).quiet, .string (zc : Cm).reply]) ∧ Keys w' kt (zc : Cm).keys ∧ (∃ kv', FA B F w' .data (.slice none 0 0) kv' c n []) ∧ Fr B F w w' := by
  have hz := zero26
  have HP := hid hP
  have HX : Hid (At (w.alloc (.cells #[.int .i64 0, .slice none 0 0, .int .u32 0, .int .i64 0, .string ⟨#[]⟩, .bool false, .string ⟨#[]⟩] 38)) w.heap.size #[.int .i64 0, .slice none 0 0, .int .u32 0, .int .i64 0, .string ⟨#[]⟩, .bool false, .string ⟨#[]⟩] 38) := at_new _ _ _
  have HN : Hid (w.heap.size ≠ F) := by have := at_lt g.2.1; show _ ≠ _; omega
  have HR : Hid (Fr B F w (w.alloc (.cells #[.int .i64 0, .slice none 0 0, .int .u32 0, .int .i64 0, .string ⟨#[]⟩, .bool false, .string ⟨#[]⟩] 38))) := fr_alloc (fr_refl B F w) _
  have HY : Hid (∀ (u : World) (a0 a1 a2 a3 a4 a5 a6 : Value), Fr B F w u → Fr B F w (set7 u w.heap.size a0 a1 a2 a3 a4 a5 a6)) := fun u a0 a1 a2 a3 a4 a5 a6 h => fr_set7 h (Nat.le_refl _) _ _ _ _ _ _ _
  have HG := hid (fa_alloc g (.cells #[.int .i64 0, .slice none 0 0, .int .u32 0, .int .i64 0, .string ⟨#[]⟩, .bool false, .string ⟨#[]⟩] 38))
  clear g hP
  go_enter Try.func26, Try.ntmps26
  go_wp2_with fail
  generalize w.alloc (.cells #[.int .i64 0, .slice none 0 0, .int .u32 0, .int .i64 0, .string ⟨#[]⟩, .bool false, .string ⟨#[]⟩] 38) = wa at *
  generalize w.heap.size = X at *
  refine (HP.out _).mono ?_
  rintro e w1 ⟨kp, rfl, hk1, hkept⟩
  obtain ⟨ka, km, kc, rfl⟩ := keys_slice hk1
  have hXF : X ≠ F := HN.out
  have hFX : F ≠ X := fun e => HN.out e.symm
  have HX1 := hid (at_kept HX.out hkept)
  have HR1 := hid (fr_trans HR.out (fr_kept (B := B) (F := F) hkept))
  have g1 := fa_kept HG.out hkept
  have HX2 : Hid (At (((setF7 w1 F (.int .i64 c.kind) (.slice ka km kc) (.int .u32 c.flags) (.int .i64 c.exp) (.string ⟨#[]⟩) (.bool c.quiet) (.string c.reply)).setCell ⟨F, 9, none⟩ (.int .i64 (n : Int))).setCell ⟨F, 0, none⟩ (nextV F .data)) X #[.int .i64 0, .slice none 0 0, .int .u32 0, .int .i64 0, .string ⟨#[]⟩, .bool false, .string ⟨#[]⟩] 38) := at_other (at_other (at_otherF7 HX1.out HN.out _ _ _ _ _ _ _) HN.out _ _) HN.out _ _
  have HG2 := hid (fa_next (fa_left (fa_put g1 c _ hk1) n) .data)
  have HR2 : Hid (Fr B F w (((setF7 w1 F (.int .i64 c.kind) (.slice ka km kc) (.int .u32 c.flags) (.int .i64 c.exp) (.string ⟨#[]⟩) (.bool c.quiet) (.string c.reply)).setCell ⟨F, 9, none⟩ (.int .i64 (n : Int))).setCell ⟨F, 0, none⟩ (nextV F .data))) := fr_set (fr_set (fr_setF7 HR1.out _ _ _ _ _ _ _) _ _) _ _
  have HK1 := hid hk1
  have HT := hid (fa_text g1)
  obtain ⟨c0, c1, c2, c3, c4, c5, c6, c7, c8, c9, cf⟩ := at_cells10 g1.2.1
  have hl := at_lt g1.2.1
  obtain ⟨d0, d1, d2, d3, d4, d5, d6, df⟩ := at_cells7 HX1.out
  have hlX := at_lt HX1.out
  clear g1 hk1 hkept HX HR HG HP
  go_wp2_with fail
  refine bodyPost_ret (res1 rfl _ rfl (at_alloc (at_set7 HX2.out _ _ _ _ _ _ _) _)) rfl ?_
  exact ⟨_, rfl, keys_nil _, ⟨_, fa_alloc (fa_res HG2.out HX2.out _ _ _ _ _ _ _) _⟩, fr_alloc (HY.out _ _ _ _ _ _ _ _ HR2.out) _⟩
set_option maxHeartbeats 1600000 in
set_option maxRecDepth 100000 in
theorem cmd_pass (B F : Nat) (kv : Value) (st : Cm) (left : Nat) (s : ByteArray) (c : Cm) (n : Nat) (h7 : (c.kind == 7) = false) (h2 : (c.kind == 2) = false) (w : World) (g : FA B F w .line (.slice none 0 0) kv st left [])
    (hP : ∀ w, Calls Try.prog 33 #[.string s] w fun e w' => ∃ kp, e = .returned (.tuple #[.agg #[.int .i64 c.kind, kp, .int .u32 c.flags, .int .i64 c.exp, .string ⟨#[]⟩, .bool c.quiet, .string c.reply], .int .i64 (n : Int)]) ∧ Keys w' kp c.keys ∧ Kept w w') :
    Calls Try.prog 26 #[.pointer (some ⟨F, 0, none⟩), .string s] w fun e w' => ∃ kt, e = .returned (.agg #[.int .i64 (c : Cm).kind, kt, .int .u32 (c : Cm).flags, .int .i64 (c : Cm).exp, .string ⟨#[]⟩, .bool (c : Cm).quiet, .string (c : Cm).reply]) ∧ Keys w' kt (c : Cm).keys ∧ (∃ kv', FA B F w' .passData (.slice none 0 0) kv' st n []) ∧ Fr B F w w' := by
  have hz := zero26
  have HP := hid hP
  have HX : Hid (At (w.alloc (.cells #[.int .i64 0, .slice none 0 0, .int .u32 0, .int .i64 0, .string ⟨#[]⟩, .bool false, .string ⟨#[]⟩] 38)) w.heap.size #[.int .i64 0, .slice none 0 0, .int .u32 0, .int .i64 0, .string ⟨#[]⟩, .bool false, .string ⟨#[]⟩] 38) := at_new _ _ _
  have HN : Hid (w.heap.size ≠ F) := by have := at_lt g.2.1; show _ ≠ _; omega
  have HR : Hid (Fr B F w (w.alloc (.cells #[.int .i64 0, .slice none 0 0, .int .u32 0, .int .i64 0, .string ⟨#[]⟩, .bool false, .string ⟨#[]⟩] 38))) := fr_alloc (fr_refl B F w) _
  have HY : Hid (∀ (u : World) (a0 a1 a2 a3 a4 a5 a6 : Value), Fr B F w u → Fr B F w (set7 u w.heap.size a0 a1 a2 a3 a4 a5 a6)) := fun u a0 a1 a2 a3 a4 a5 a6 h => fr_set7 h (Nat.le_refl _) _ _ _ _ _ _ _
  have HG := hid (fa_alloc g (.cells #[.int .i64 0, .slice none 0 0, .int .u32 0, .int .i64 0, .string ⟨#[]⟩, .bool false, .string ⟨#[]⟩] 38))
  clear g hP
  go_enter Try.func26, Try.ntmps26
  go_wp2_with fail
  generalize w.alloc (.cells #[.int .i64 0, .slice none 0 0, .int .u32 0, .int .i64 0, .string ⟨#[]⟩, .bool false, .string ⟨#[]⟩] 38) = wa at *
  generalize w.heap.size = X at *
  refine (HP.out _).mono ?_
  rintro e w1 ⟨kp, rfl, hk1, hkept⟩
  obtain ⟨ka, km, kc, rfl⟩ := keys_slice hk1
  have hXF : X ≠ F := HN.out
  have hFX : F ≠ X := fun e => HN.out e.symm
  have HX1 := hid (at_kept HX.out hkept)
  have HR1 := hid (fr_trans HR.out (fr_kept (B := B) (F := F) hkept))
  have g1 := fa_kept HG.out hkept
  have HX2 : Hid (At ((w1.setCell ⟨F, 9, none⟩ (.int .i64 (n : Int))).setCell ⟨F, 0, none⟩ (nextV F .passData)) X #[.int .i64 0, .slice none 0 0, .int .u32 0, .int .i64 0, .string ⟨#[]⟩, .bool false, .string ⟨#[]⟩] 38) := at_other (at_other HX1.out HN.out _ _) HN.out _ _
  have HG2 := hid (fa_next (fa_left g1 n) .passData)
  have HR2 : Hid (Fr B F w ((w1.setCell ⟨F, 9, none⟩ (.int .i64 (n : Int))).setCell ⟨F, 0, none⟩ (nextV F .passData))) := fr_set (fr_set HR1.out _ _) _ _
  have HK1 := hid hk1
  have HT := hid (fa_text g1)
  have HK2 : Hid (Keys ((w1.setCell ⟨F, 9, none⟩ (.int .i64 (n : Int))).setCell ⟨F, 0, none⟩ (nextV F .passData)) (.slice ka km kc) c.keys) := keys_setc (keys_setc hk1 (fa_text g1)) (fa_text (fa_left g1 n))
  obtain ⟨c0, c1, c2, c3, c4, c5, c6, c7, c8, c9, cf⟩ := at_cells10 g1.2.1
  have hl := at_lt g1.2.1
  obtain ⟨d0, d1, d2, d3, d4, d5, d6, df⟩ := at_cells7 HX1.out
  have hlX := at_lt HX1.out
  clear g1 hk1 hkept HX HR HG HP
  go_wp2_with fail
  refine bodyPost_ret (res1 rfl _ rfl (at_alloc (at_set7 HX2.out _ _ _ _ _ _ _) _)) rfl ?_
  exact ⟨_, rfl, keys_kept (keys_set7' HK2.out HX2.out _ _ _ _ _ _ _) (kept_alloc (kept_refl _) _), ⟨_, fa_alloc (fa_res HG2.out HX2.out _ _ _ _ _ _ _) _⟩, fr_alloc (HY.out _ _ _ _ _ _ _ _ HR2.out) _⟩
set_option maxHeartbeats 1600000 in
set_option maxRecDepth 100000 in
theorem cmd_plain (B F : Nat) (kv : Value) (st : Cm) (left : Nat) (s : ByteArray) (c : Cm) (d : Int) (h7 : (c.kind == 7) = false) (h2 : (c.kind == 2) = false) (hd : ¬ (0 : Int) ≤ d) (w : World) (g : FA B F w .line (.slice none 0 0) kv st left [])
    (hP : ∀ w, Calls Try.prog 33 #[.string s] w fun e w' => ∃ kp, e = .returned (.tuple #[.agg #[.int .i64 c.kind, kp, .int .u32 c.flags, .int .i64 c.exp, .string ⟨#[]⟩, .bool c.quiet, .string c.reply], .int .i64 d]) ∧ Keys w' kp c.keys ∧ Kept w w') :
    Calls Try.prog 26 #[.pointer (some ⟨F, 0, none⟩), .string s] w fun e w' => ∃ kt, e = .returned (.agg #[.int .i64 (c : Cm).kind, kt, .int .u32 (c : Cm).flags, .int .i64 (c : Cm).exp, .string ⟨#[]⟩, .bool (c : Cm).quiet, .string (c : Cm).reply]) ∧ Keys w' kt (c : Cm).keys ∧ (∃ kv', FA B F w' .line (.slice none 0 0) kv' st left []) ∧ Fr B F w w' := by
  have hz := zero26
  have HP := hid hP
  have HX : Hid (At (w.alloc (.cells #[.int .i64 0, .slice none 0 0, .int .u32 0, .int .i64 0, .string ⟨#[]⟩, .bool false, .string ⟨#[]⟩] 38)) w.heap.size #[.int .i64 0, .slice none 0 0, .int .u32 0, .int .i64 0, .string ⟨#[]⟩, .bool false, .string ⟨#[]⟩] 38) := at_new _ _ _
  have HN : Hid (w.heap.size ≠ F) := by have := at_lt g.2.1; show _ ≠ _; omega
  have HR : Hid (Fr B F w (w.alloc (.cells #[.int .i64 0, .slice none 0 0, .int .u32 0, .int .i64 0, .string ⟨#[]⟩, .bool false, .string ⟨#[]⟩] 38))) := fr_alloc (fr_refl B F w) _
  have HY : Hid (∀ (u : World) (a0 a1 a2 a3 a4 a5 a6 : Value), Fr B F w u → Fr B F w (set7 u w.heap.size a0 a1 a2 a3 a4 a5 a6)) := fun u a0 a1 a2 a3 a4 a5 a6 h => fr_set7 h (Nat.le_refl _) _ _ _ _ _ _ _
  have HG := hid (fa_alloc g (.cells #[.int .i64 0, .slice none 0 0, .int .u32 0, .int .i64 0, .string ⟨#[]⟩, .bool false, .string ⟨#[]⟩] 38))
  clear g hP
  go_enter Try.func26, Try.ntmps26
  go_wp2_with fail
  generalize w.alloc (.cells #[.int .i64 0, .slice none 0 0, .int .u32 0, .int .i64 0, .string ⟨#[]⟩, .bool false, .string ⟨#[]⟩] 38) = wa at *
  generalize w.heap.size = X at *
  refine (HP.out _).mono ?_
  rintro e w1 ⟨kp, rfl, hk1, hkept⟩
  obtain ⟨ka, km, kc, rfl⟩ := keys_slice hk1
  have hXF : X ≠ F := HN.out
  have hFX : F ≠ X := fun e => HN.out e.symm
  have HX1 := hid (at_kept HX.out hkept)
  have HR1 := hid (fr_trans HR.out (fr_kept (B := B) (F := F) hkept))
  have g1 := fa_kept HG.out hkept
  have HX2 : Hid (At (w1) X #[.int .i64 0, .slice none 0 0, .int .u32 0, .int .i64 0, .string ⟨#[]⟩, .bool false, .string ⟨#[]⟩] 38) := HX1.out
  have HG2 := hid (g1)
  have HR2 : Hid (Fr B F w (w1)) := HR1.out
  have HK1 := hid hk1
  have HT := hid (fa_text g1)
  have HK2 := hid hk1
  obtain ⟨c0, c1, c2, c3, c4, c5, c6, c7, c8, c9, cf⟩ := at_cells10 g1.2.1
  have hl := at_lt g1.2.1
  obtain ⟨d0, d1, d2, d3, d4, d5, d6, df⟩ := at_cells7 HX1.out
  have hlX := at_lt HX1.out
  clear g1 hk1 hkept HX HR HG HP
  go_wp2_with fail
  refine bodyPost_ret (res1 rfl _ rfl (at_alloc (at_set7 HX2.out _ _ _ _ _ _ _) _)) rfl ?_
  exact ⟨_, rfl, keys_kept (keys_set7' HK2.out HX2.out _ _ _ _ _ _ _) (kept_alloc (kept_refl _) _), ⟨_, fa_alloc (fa_res HG2.out HX2.out _ _ _ _ _ _ _) _⟩, fr_alloc (HY.out _ _ _ _ _ _ _ _ HR2.out) _⟩
end Go.Proofs.Ytjlojkcdglocbaa
