/- The contract of the program's Parse: it answers what the plain function does of the line's words. The line has at most 2^32 bytes. It turns nothing that was there. -/
import Derived.Test.YtjlojkcdglocbaaGet
namespace Go.Proofs.Ytjlojkcdglocbaa
open Go.ChangeShapes Go.WideShapes Go.ChangeAt Go.RowKit
set_option linter.unusedVariables false
set_option linter.unusedSimpArgs false

theorem fields_lay (s : ByteArray) (hs : s.size ≤ 4294967296) (w : World) {W : List ByteArray} (hW : words s = W) :
    Calls Try.prog 39 #[.string s, .func (.func 40) #[] #[]] w fun e w' => ∃ A, e = .returned (.slice (some ⟨A, 0, none⟩) W.length W.length) ∧ Lay w' A 0 W ∧ Kept w w' := by
  subst hW
  refine (FieldsFunc_any s hs w).mono ?_
  rintro e w' ⟨A, rfl, hA, hc, hk⟩
  exact ⟨A, rfl, ⟨hA, fun i hi => by rw [Nat.zero_add]; exact hc i hi⟩, hk⟩
theorem spl_few : ∀ (l cur : List UInt8), (spl cur l).length ≤ l.length + 1
  | [], cur => by rw [spl]; split <;> simp
  | b :: t, cur => by
    rw [spl]
    split
    · split
      · have := spl_few t []; simp; omega
      · have := spl_few t []; simp; omega
    · have := spl_few t (cur ++ [b]); simp; omega
theorem words_few (s : ByteArray) : (words s).length ≤ s.size + 1 := by
  have := spl_few s.data.toList []
  unfold words wordsL
  rw [List.length_map, Lib.size_eq]
  exact this
theorem spl_sub : ∀ (l cur : List UInt8) (x : List UInt8), x ∈ spl cur l → x.length ≤ cur.length + l.length
  | [], cur, x, h => by rw [spl] at h; split at h <;> simp at h; subst h; omega
  | b :: t, cur, x, h => by
    rw [spl] at h
    split at h
    · split at h
      · have := spl_sub t [] x h; simp at *; omega
      · rcases List.mem_cons.1 h with rfl | h
        · omega
        · have := spl_sub t [] x h; simp at *; omega
    · have := spl_sub t (cur ++ [b]) x h; simp at *; omega
theorem words_short (s : ByteArray) (hs : s.size ≤ 4294967296) : Short (words s) := by
  intro x hx
  unfold words wordsL at hx
  obtain ⟨y, hy, rfl⟩ := List.mem_map.1 hx
  have := spl_sub s.data.toList [] y hy
  have hl : s.data.toList.length = s.size := (Lib.size_eq s).symm
  show (ba y).size ≤ _
  have hb : (ba y).size = y.length := by unfold ba; simp [ByteArray.size]
  rw [hb]
  simp at this
  omega
theorem keys_set7' {w : World} {v : Value} {K : List ByteArray} {G : Nat} {z : Int} {b1 b2 b3 b4 b5 b6 : Value} (h : Keys w v K) (hA : At w G #[.int .i64 z, b1, b2, b3, b4, b5, b6] 38) (a0 a1 a2 a3 a4 a5 a6 : Value) : Keys (set7 w G a0 a1 a2 a3 a4 a5 a6) v K := by
  cases K with
  | nil =>
    rcases h with h | ⟨A, cap, hv, hA', hc⟩
    · exact .inl h
    · exact .inr ⟨A, cap, hv, by simpa [set7, World.setCell] using hA', fun i hi => absurd hi (by simp)⟩
  | cons x K =>
    refine keys_set7 h ?_ _ _ _ _ _ _ _
    rintro A n cap rfl e
    subst e
    rcases h with ⟨h, _⟩ | ⟨A', cap', hv, hA', hc⟩
    · cases h
    · cases hv
      have h1 := hc 0 (by simp)
      rw [at_cell hA 0] at h1
      simp at h1
theorem tail_run (A m n : Nat) (hm : m = n + 1) (w : World) : (Instr.slice 35 (.slice (some ⟨A, 0, none⟩) m m) (some (.int .i64 1)) none none).run Try.prog w = .ok (.slice (some ⟨A, if m = 1 then 0 else 1, none⟩) n n) w := by
  have h := run_slice_l (P := Try.prog) w 35 (some ⟨A, 0, none⟩) m m Try.underlying35 .i64 1 (by omega) (by omega)
  rw [h]
  have hn : m - 1 = n := by omega
  by_cases h1 : m = 1
  · simp [go_sem, h1]; omega
  · simp [go_sem, h1, hn, Addr.add]
theorem lay_rest {w : World} {A m n : Nat} {x : ByteArray} {L : List ByteArray} (h : Lay w A 0 (x :: L)) (hL : L.length = n) (hm : m = n + 1) : Lay w A (if m = 1 then 0 else 1) L := by
  by_cases h1 : m = 1
  · refine ⟨h.1, fun i hi => absurd hi (by omega)⟩
  · rw [if_neg h1]
    exact lay_tail h
set_option maxHeartbeats 1600000 in
set_option maxRecDepth 100000 in
theorem parse_get (s : ByteArray) (hs : s.size ≤ 4294967296) (c : Cm) (L : List ByteArray) (m n : Nat) (hm : m = L.length + 1) (hn : n = L.length) (x : ByteArray) (hx0 : x = ⟨#[103, 101, 116]⟩) (hw : words s = x :: L) (w : World) (hF : ∀ A o w1, Lay w1 A o L → Calls Try.prog 42 #[.slice (some ⟨A, o, none⟩) n n] w1 fun e w' => ∃ kv, e = .returned (.agg #[.int .i64 c.kind, kv, .int .u32 c.flags, .int .i64 c.exp, .string ⟨#[]⟩, .bool c.quiet, .string c.reply]) ∧ Keys w' kv c.keys ∧ Kept w1 w') :
    Calls Try.prog 33 #[.string s] w fun e w' => ∃ kv, e = .returned (.tuple #[.agg #[.int .i64 c.kind, kv, .int .u32 c.flags, .int .i64 c.exp, .string ⟨#[]⟩, .bool c.quiet, .string c.reply], .int .i64 (-1)]) ∧ Keys w' kv c.keys ∧ Kept w w' := by
  have hz := zero26
  have HA : Hid (At (w.alloc (.cells #[.int .i64 0, .slice none 0 0, .int .u32 0, .int .i64 0, .string ⟨#[]⟩, .bool false, .string ⟨#[]⟩] 38)) w.heap.size #[.int .i64 0, .slice none 0 0, .int .u32 0, .int .i64 0, .string ⟨#[]⟩, .bool false, .string ⟨#[]⟩] 38) := at_new _ _ _
  have HK : Hid (Kept w (w.alloc (.cells #[.int .i64 0, .slice none 0 0, .int .u32 0, .int .i64 0, .string ⟨#[]⟩, .bool false, .string ⟨#[]⟩] 38))) := kept_alloc (kept_refl w) _
  have HY : Hid (∀ (u : World) (a0 a1 a2 a3 a4 a5 a6 : Value), Kept w u → Kept w (set7 u w.heap.size a0 a1 a2 a3 a4 a5 a6)) := fun u a0 a1 a2 a3 a4 a5 a6 h => kept_set7 h (Nat.le_refl _) _ _ _ _ _ _ _
  have HFF : Hid (∀ w, Calls Try.prog 39 #[.string s, .func (.func 40) #[] #[]] w fun e w' => ∃ A, e = .returned (.slice (some ⟨A, 0, none⟩) m m) ∧ Lay w' A 0 (x :: L) ∧ Kept w w') := fun w => by
    have := fields_lay s hs w hw
    rw [List.length_cons, ← hm] at this
    exact this
  have h1 : ((m : Int) == 0) = false := by simp; omega
  have h2 : (1 : Int) ≤ (m : Int) := by omega
  have h3 : (0 : Int) < (m : Int) := by omega
  have HFn := hid hF
  have HLN : Hid (L.length = n) := hn.symm
  have HMN : Hid (m = n + 1) := by show m = n + 1; omega
  have HSL : Hid (∀ A w, _) := fun A w => tail_run A m n (by omega) w
  have gget : (x.toList == [103, 101, 116]) = true := by rw [txt_eq, hx0]; decide
  clear hm hn hw hs hF hx0
  go_enter Try.func33, Try.ntmps33
  go_wp2_with fail
  generalize w.alloc (.cells #[.int .i64 0, .slice none 0 0, .int .u32 0, .int .i64 0, .string ⟨#[]⟩, .bool false, .string ⟨#[]⟩] 38) = wa at *
  generalize w.heap.size = X at *
  refine (HFF.out _).mono ?_
  rintro e w1 ⟨A, rfl, hl, hk1⟩
  have HL := hid hl
  have HA1 := hid (at_kept HA.out hk1)
  have HK1 := hid (kept_trans HK.out hk1)
  clear hk1
  have hx := lay_at HL.out 0 (by simp)
  have HT := hid (lay_rest HL.out HLN.out HMN.out)
  have hsl := HSL.out A
  generalize (if m = 1 then 0 else 1) = oo at *
  clear hl
  simp only [at', List.getD_cons_zero, Nat.add_zero] at hx
  go_wp2_with fail
  refine (HFn.out _ _ _ HT.out).mono ?_
  rintro e w2 ⟨kv, rfl, hks, hk2⟩
  clear hx
  have HA2 := hid (at_kept HA1.out hk2)
  have HK2 := hid (kept_trans HK1.out hk2)
  have HKS := hid hks
  clear hk2 hks
  obtain ⟨c0, c1, c2, c3, c4, c5, c6, fr⟩ := at_cells7 HA2.out
  obtain ⟨ka, km, kc, rfl⟩ := keys_slice HKS.out
  go_wp2_with fail
  refine bodyPost_ret (res2 rfl _ rfl rfl (at_set7 HA2.out _ _ _ _ _ _ _)) rfl ?_
  exact ⟨_, rfl, keys_set7' HKS.out HA2.out _ _ _ _ _ _ _, HY.out _ _ _ _ _ _ _ _ HK2.out⟩
set_option maxHeartbeats 1600000 in
set_option maxRecDepth 100000 in
theorem parse_set (s : ByteArray) (hs : s.size ≤ 4294967296) (c : Cm) (d : Int) (L : List ByteArray) (m n : Nat) (hm : m = L.length + 1) (hn : n = L.length) (x : ByteArray) (hx0 : x = ⟨#[115, 101, 116]⟩) (hw : words s = x :: L) (w : World) (hF : ∀ A o w1, Lay w1 A o L → Calls Try.prog 43 #[.slice (some ⟨A, o, none⟩) n n] w1 fun e w' => ∃ kv, e = .returned (.tuple #[.agg #[.int .i64 c.kind, kv, .int .u32 c.flags, .int .i64 c.exp, .string ⟨#[]⟩, .bool c.quiet, .string c.reply], .int .i64 d]) ∧ Keys w' kv c.keys ∧ Kept w1 w') :
    Calls Try.prog 33 #[.string s] w fun e w' => ∃ kv, e = .returned (.tuple #[.agg #[.int .i64 c.kind, kv, .int .u32 c.flags, .int .i64 c.exp, .string ⟨#[]⟩, .bool c.quiet, .string c.reply], .int .i64 d]) ∧ Keys w' kv c.keys ∧ Kept w w' := by
  have hz := zero26
  have HA : Hid (At (w.alloc (.cells #[.int .i64 0, .slice none 0 0, .int .u32 0, .int .i64 0, .string ⟨#[]⟩, .bool false, .string ⟨#[]⟩] 38)) w.heap.size #[.int .i64 0, .slice none 0 0, .int .u32 0, .int .i64 0, .string ⟨#[]⟩, .bool false, .string ⟨#[]⟩] 38) := at_new _ _ _
  have HK : Hid (Kept w (w.alloc (.cells #[.int .i64 0, .slice none 0 0, .int .u32 0, .int .i64 0, .string ⟨#[]⟩, .bool false, .string ⟨#[]⟩] 38))) := kept_alloc (kept_refl w) _
  have HY : Hid (∀ (u : World) (a0 a1 a2 a3 a4 a5 a6 : Value), Kept w u → Kept w (set7 u w.heap.size a0 a1 a2 a3 a4 a5 a6)) := fun u a0 a1 a2 a3 a4 a5 a6 h => kept_set7 h (Nat.le_refl _) _ _ _ _ _ _ _
  have HFF : Hid (∀ w, Calls Try.prog 39 #[.string s, .func (.func 40) #[] #[]] w fun e w' => ∃ A, e = .returned (.slice (some ⟨A, 0, none⟩) m m) ∧ Lay w' A 0 (x :: L) ∧ Kept w w') := fun w => by
    have := fields_lay s hs w hw
    rw [List.length_cons, ← hm] at this
    exact this
  have h1 : ((m : Int) == 0) = false := by simp; omega
  have h2 : (1 : Int) ≤ (m : Int) := by omega
  have h3 : (0 : Int) < (m : Int) := by omega
  have HFn := hid hF
  have HLN : Hid (L.length = n) := hn.symm
  have HMN : Hid (m = n + 1) := by show m = n + 1; omega
  have HSL : Hid (∀ A w, _) := fun A w => tail_run A m n (by omega) w
  have gget : (x.toList == [103, 101, 116]) = false := by rw [txt_eq, hx0]; decide
  have gset : (x.toList == [115, 101, 116]) = true := by rw [txt_eq, hx0]; decide
  clear hm hn hw hs hF hx0
  go_enter Try.func33, Try.ntmps33
  go_wp2_with fail
  generalize w.alloc (.cells #[.int .i64 0, .slice none 0 0, .int .u32 0, .int .i64 0, .string ⟨#[]⟩, .bool false, .string ⟨#[]⟩] 38) = wa at *
  generalize w.heap.size = X at *
  refine (HFF.out _).mono ?_
  rintro e w1 ⟨A, rfl, hl, hk1⟩
  have HL := hid hl
  have HA1 := hid (at_kept HA.out hk1)
  have HK1 := hid (kept_trans HK.out hk1)
  clear hk1
  have hx := lay_at HL.out 0 (by simp)
  have HT := hid (lay_rest HL.out HLN.out HMN.out)
  have hsl := HSL.out A
  generalize (if m = 1 then 0 else 1) = oo at *
  clear hl
  simp only [at', List.getD_cons_zero, Nat.add_zero] at hx
  go_wp2_with fail
  refine (HFn.out _ _ _ HT.out).mono ?_
  rintro e w2 ⟨kv, rfl, hks, hk2⟩
  clear hx
  have HA2 := hid (at_kept HA1.out hk2)
  have HK2 := hid (kept_trans HK1.out hk2)
  have HKS := hid hks
  clear hk2 hks
  obtain ⟨c0, c1, c2, c3, c4, c5, c6, fr⟩ := at_cells7 HA2.out
  obtain ⟨ka, km, kc, rfl⟩ := keys_slice HKS.out
  go_wp2_with fail
  refine bodyPost_ret (res2 rfl _ rfl rfl (at_set7 HA2.out _ _ _ _ _ _ _)) rfl ?_
  exact ⟨_, rfl, keys_set7' HKS.out HA2.out _ _ _ _ _ _ _, HY.out _ _ _ _ _ _ _ _ HK2.out⟩
set_option maxHeartbeats 1600000 in
set_option maxRecDepth 100000 in
theorem parse_delete (s : ByteArray) (hs : s.size ≤ 4294967296) (c : Cm) (L : List ByteArray) (m n : Nat) (hm : m = L.length + 1) (hn : n = L.length) (x : ByteArray) (hx0 : x = ⟨#[100, 101, 108, 101, 116, 101]⟩) (hw : words s = x :: L) (w : World) (hF : ∀ A o w1, Lay w1 A o L → Calls Try.prog 44 #[.slice (some ⟨A, o, none⟩) n n] w1 fun e w' => ∃ kv, e = .returned (.agg #[.int .i64 c.kind, kv, .int .u32 c.flags, .int .i64 c.exp, .string ⟨#[]⟩, .bool c.quiet, .string c.reply]) ∧ Keys w' kv c.keys ∧ Kept w1 w') :
    Calls Try.prog 33 #[.string s] w fun e w' => ∃ kv, e = .returned (.tuple #[.agg #[.int .i64 c.kind, kv, .int .u32 c.flags, .int .i64 c.exp, .string ⟨#[]⟩, .bool c.quiet, .string c.reply], .int .i64 (-1)]) ∧ Keys w' kv c.keys ∧ Kept w w' := by
  have hz := zero26
  have HA : Hid (At (w.alloc (.cells #[.int .i64 0, .slice none 0 0, .int .u32 0, .int .i64 0, .string ⟨#[]⟩, .bool false, .string ⟨#[]⟩] 38)) w.heap.size #[.int .i64 0, .slice none 0 0, .int .u32 0, .int .i64 0, .string ⟨#[]⟩, .bool false, .string ⟨#[]⟩] 38) := at_new _ _ _
  have HK : Hid (Kept w (w.alloc (.cells #[.int .i64 0, .slice none 0 0, .int .u32 0, .int .i64 0, .string ⟨#[]⟩, .bool false, .string ⟨#[]⟩] 38))) := kept_alloc (kept_refl w) _
  have HY : Hid (∀ (u : World) (a0 a1 a2 a3 a4 a5 a6 : Value), Kept w u → Kept w (set7 u w.heap.size a0 a1 a2 a3 a4 a5 a6)) := fun u a0 a1 a2 a3 a4 a5 a6 h => kept_set7 h (Nat.le_refl _) _ _ _ _ _ _ _
  have HFF : Hid (∀ w, Calls Try.prog 39 #[.string s, .func (.func 40) #[] #[]] w fun e w' => ∃ A, e = .returned (.slice (some ⟨A, 0, none⟩) m m) ∧ Lay w' A 0 (x :: L) ∧ Kept w w') := fun w => by
    have := fields_lay s hs w hw
    rw [List.length_cons, ← hm] at this
    exact this
  have h1 : ((m : Int) == 0) = false := by simp; omega
  have h2 : (1 : Int) ≤ (m : Int) := by omega
  have h3 : (0 : Int) < (m : Int) := by omega
  have HFn := hid hF
  have HLN : Hid (L.length = n) := hn.symm
  have HMN : Hid (m = n + 1) := by show m = n + 1; omega
  have HSL : Hid (∀ A w, _) := fun A w => tail_run A m n (by omega) w
  have gget : (x.toList == [103, 101, 116]) = false := by rw [txt_eq, hx0]; decide
  have gset : (x.toList == [115, 101, 116]) = false := by rw [txt_eq, hx0]; decide
  have gdelete : (x.toList == [100, 101, 108, 101, 116, 101]) = true := by rw [txt_eq, hx0]; decide
  clear hm hn hw hs hF hx0
  go_enter Try.func33, Try.ntmps33
  go_wp2_with fail
  generalize w.alloc (.cells #[.int .i64 0, .slice none 0 0, .int .u32 0, .int .i64 0, .string ⟨#[]⟩, .bool false, .string ⟨#[]⟩] 38) = wa at *
  generalize w.heap.size = X at *
  refine (HFF.out _).mono ?_
  rintro e w1 ⟨A, rfl, hl, hk1⟩
  have HL := hid hl
  have HA1 := hid (at_kept HA.out hk1)
  have HK1 := hid (kept_trans HK.out hk1)
  clear hk1
  have hx := lay_at HL.out 0 (by simp)
  have HT := hid (lay_rest HL.out HLN.out HMN.out)
  have hsl := HSL.out A
  generalize (if m = 1 then 0 else 1) = oo at *
  clear hl
  simp only [at', List.getD_cons_zero, Nat.add_zero] at hx
  go_wp2_with fail
  refine (HFn.out _ _ _ HT.out).mono ?_
  rintro e w2 ⟨kv, rfl, hks, hk2⟩
  clear hx
  have HA2 := hid (at_kept HA1.out hk2)
  have HK2 := hid (kept_trans HK1.out hk2)
  have HKS := hid hks
  clear hk2 hks
  obtain ⟨c0, c1, c2, c3, c4, c5, c6, fr⟩ := at_cells7 HA2.out
  obtain ⟨ka, km, kc, rfl⟩ := keys_slice HKS.out
  go_wp2_with fail
  refine bodyPost_ret (res2 rfl _ rfl rfl (at_set7 HA2.out _ _ _ _ _ _ _)) rfl ?_
  exact ⟨_, rfl, keys_set7' HKS.out HA2.out _ _ _ _ _ _ _, HY.out _ _ _ _ _ _ _ _ HK2.out⟩
set_option maxHeartbeats 1600000 in
set_option maxRecDepth 100000 in
theorem parse_touch (s : ByteArray) (hs : s.size ≤ 4294967296) (c : Cm) (L : List ByteArray) (m n : Nat) (hm : m = L.length + 1) (hn : n = L.length) (x : ByteArray) (hx0 : x = ⟨#[116, 111, 117, 99, 104]⟩) (hw : words s = x :: L) (w : World) (hF : ∀ A o w1, Lay w1 A o L → Calls Try.prog 45 #[.slice (some ⟨A, o, none⟩) n n] w1 fun e w' => ∃ kv, e = .returned (.agg #[.int .i64 c.kind, kv, .int .u32 c.flags, .int .i64 c.exp, .string ⟨#[]⟩, .bool c.quiet, .string c.reply]) ∧ Keys w' kv c.keys ∧ Kept w1 w') :
    Calls Try.prog 33 #[.string s] w fun e w' => ∃ kv, e = .returned (.tuple #[.agg #[.int .i64 c.kind, kv, .int .u32 c.flags, .int .i64 c.exp, .string ⟨#[]⟩, .bool c.quiet, .string c.reply], .int .i64 (-1)]) ∧ Keys w' kv c.keys ∧ Kept w w' := by
  have hz := zero26
  have HA : Hid (At (w.alloc (.cells #[.int .i64 0, .slice none 0 0, .int .u32 0, .int .i64 0, .string ⟨#[]⟩, .bool false, .string ⟨#[]⟩] 38)) w.heap.size #[.int .i64 0, .slice none 0 0, .int .u32 0, .int .i64 0, .string ⟨#[]⟩, .bool false, .string ⟨#[]⟩] 38) := at_new _ _ _
  have HK : Hid (Kept w (w.alloc (.cells #[.int .i64 0, .slice none 0 0, .int .u32 0, .int .i64 0, .string ⟨#[]⟩, .bool false, .string ⟨#[]⟩] 38))) := kept_alloc (kept_refl w) _
  have HY : Hid (∀ (u : World) (a0 a1 a2 a3 a4 a5 a6 : Value), Kept w u → Kept w (set7 u w.heap.size a0 a1 a2 a3 a4 a5 a6)) := fun u a0 a1 a2 a3 a4 a5 a6 h => kept_set7 h (Nat.le_refl _) _ _ _ _ _ _ _
  have HFF : Hid (∀ w, Calls Try.prog 39 #[.string s, .func (.func 40) #[] #[]] w fun e w' => ∃ A, e = .returned (.slice (some ⟨A, 0, none⟩) m m) ∧ Lay w' A 0 (x :: L) ∧ Kept w w') := fun w => by
    have := fields_lay s hs w hw
    rw [List.length_cons, ← hm] at this
    exact this
  have h1 : ((m : Int) == 0) = false := by simp; omega
  have h2 : (1 : Int) ≤ (m : Int) := by omega
  have h3 : (0 : Int) < (m : Int) := by omega
  have HFn := hid hF
  have HLN : Hid (L.length = n) := hn.symm
  have HMN : Hid (m = n + 1) := by show m = n + 1; omega
  have HSL : Hid (∀ A w, _) := fun A w => tail_run A m n (by omega) w
  have gget : (x.toList == [103, 101, 116]) = false := by rw [txt_eq, hx0]; decide
  have gset : (x.toList == [115, 101, 116]) = false := by rw [txt_eq, hx0]; decide
  have gdelete : (x.toList == [100, 101, 108, 101, 116, 101]) = false := by rw [txt_eq, hx0]; decide
  have gtouch : (x.toList == [116, 111, 117, 99, 104]) = true := by rw [txt_eq, hx0]; decide
  clear hm hn hw hs hF hx0
  go_enter Try.func33, Try.ntmps33
  go_wp2_with fail
  generalize w.alloc (.cells #[.int .i64 0, .slice none 0 0, .int .u32 0, .int .i64 0, .string ⟨#[]⟩, .bool false, .string ⟨#[]⟩] 38) = wa at *
  generalize w.heap.size = X at *
  refine (HFF.out _).mono ?_
  rintro e w1 ⟨A, rfl, hl, hk1⟩
  have HL := hid hl
  have HA1 := hid (at_kept HA.out hk1)
  have HK1 := hid (kept_trans HK.out hk1)
  clear hk1
  have hx := lay_at HL.out 0 (by simp)
  have HT := hid (lay_rest HL.out HLN.out HMN.out)
  have hsl := HSL.out A
  generalize (if m = 1 then 0 else 1) = oo at *
  clear hl
  simp only [at', List.getD_cons_zero, Nat.add_zero] at hx
  go_wp2_with fail
  refine (HFn.out _ _ _ HT.out).mono ?_
  rintro e w2 ⟨kv, rfl, hks, hk2⟩
  clear hx
  have HA2 := hid (at_kept HA1.out hk2)
  have HK2 := hid (kept_trans HK1.out hk2)
  have HKS := hid hks
  clear hk2 hks
  obtain ⟨c0, c1, c2, c3, c4, c5, c6, fr⟩ := at_cells7 HA2.out
  obtain ⟨ka, km, kc, rfl⟩ := keys_slice HKS.out
  go_wp2_with fail
  refine bodyPost_ret (res2 rfl _ rfl rfl (at_set7 HA2.out _ _ _ _ _ _ _)) rfl ?_
  exact ⟨_, rfl, keys_set7' HKS.out HA2.out _ _ _ _ _ _ _, HY.out _ _ _ _ _ _ _ _ HK2.out⟩
set_option maxHeartbeats 1600000 in
set_option maxRecDepth 100000 in
theorem parse_stats (s : ByteArray) (hs : s.size ≤ 4294967296) (c : Cm) (L : List ByteArray) (m n : Nat) (hm : m = L.length + 1) (hn : n = L.length) (x : ByteArray) (hx0 : x = ⟨#[115, 116, 97, 116, 115]⟩) (hw : words s = x :: L) (w : World) (hF : ∀ A o w1, Lay w1 A o L → Calls Try.prog 46 #[.int .i64 5, .slice (some ⟨A, o, none⟩) n n] w1 fun e w' => ∃ kv, e = .returned (.agg #[.int .i64 c.kind, kv, .int .u32 c.flags, .int .i64 c.exp, .string ⟨#[]⟩, .bool c.quiet, .string c.reply]) ∧ Keys w' kv c.keys ∧ Kept w1 w') :
    Calls Try.prog 33 #[.string s] w fun e w' => ∃ kv, e = .returned (.tuple #[.agg #[.int .i64 c.kind, kv, .int .u32 c.flags, .int .i64 c.exp, .string ⟨#[]⟩, .bool c.quiet, .string c.reply], .int .i64 (-1)]) ∧ Keys w' kv c.keys ∧ Kept w w' := by
  have hz := zero26
  have HA : Hid (At (w.alloc (.cells #[.int .i64 0, .slice none 0 0, .int .u32 0, .int .i64 0, .string ⟨#[]⟩, .bool false, .string ⟨#[]⟩] 38)) w.heap.size #[.int .i64 0, .slice none 0 0, .int .u32 0, .int .i64 0, .string ⟨#[]⟩, .bool false, .string ⟨#[]⟩] 38) := at_new _ _ _
  have HK : Hid (Kept w (w.alloc (.cells #[.int .i64 0, .slice none 0 0, .int .u32 0, .int .i64 0, .string ⟨#[]⟩, .bool false, .string ⟨#[]⟩] 38))) := kept_alloc (kept_refl w) _
  have HY : Hid (∀ (u : World) (a0 a1 a2 a3 a4 a5 a6 : Value), Kept w u → Kept w (set7 u w.heap.size a0 a1 a2 a3 a4 a5 a6)) := fun u a0 a1 a2 a3 a4 a5 a6 h => kept_set7 h (Nat.le_refl _) _ _ _ _ _ _ _
  have HFF : Hid (∀ w, Calls Try.prog 39 #[.string s, .func (.func 40) #[] #[]] w fun e w' => ∃ A, e = .returned (.slice (some ⟨A, 0, none⟩) m m) ∧ Lay w' A 0 (x :: L) ∧ Kept w w') := fun w => by
    have := fields_lay s hs w hw
    rw [List.length_cons, ← hm] at this
    exact this
  have h1 : ((m : Int) == 0) = false := by simp; omega
  have h2 : (1 : Int) ≤ (m : Int) := by omega
  have h3 : (0 : Int) < (m : Int) := by omega
  have HFn := hid hF
  have HLN : Hid (L.length = n) := hn.symm
  have HMN : Hid (m = n + 1) := by show m = n + 1; omega
  have HSL : Hid (∀ A w, _) := fun A w => tail_run A m n (by omega) w
  have gget : (x.toList == [103, 101, 116]) = false := by rw [txt_eq, hx0]; decide
  have gset : (x.toList == [115, 101, 116]) = false := by rw [txt_eq, hx0]; decide
  have gdelete : (x.toList == [100, 101, 108, 101, 116, 101]) = false := by rw [txt_eq, hx0]; decide
  have gtouch : (x.toList == [116, 111, 117, 99, 104]) = false := by rw [txt_eq, hx0]; decide
  have gstats : (x.toList == [115, 116, 97, 116, 115]) = true := by rw [txt_eq, hx0]; decide
  clear hm hn hw hs hF hx0
  go_enter Try.func33, Try.ntmps33
  go_wp2_with fail
  generalize w.alloc (.cells #[.int .i64 0, .slice none 0 0, .int .u32 0, .int .i64 0, .string ⟨#[]⟩, .bool false, .string ⟨#[]⟩] 38) = wa at *
  generalize w.heap.size = X at *
  refine (HFF.out _).mono ?_
  rintro e w1 ⟨A, rfl, hl, hk1⟩
  have HL := hid hl
  have HA1 := hid (at_kept HA.out hk1)
  have HK1 := hid (kept_trans HK.out hk1)
  clear hk1
  have hx := lay_at HL.out 0 (by simp)
  have HT := hid (lay_rest HL.out HLN.out HMN.out)
  have hsl := HSL.out A
  generalize (if m = 1 then 0 else 1) = oo at *
  clear hl
  simp only [at', List.getD_cons_zero, Nat.add_zero] at hx
  go_wp2_with fail
  refine (HFn.out _ _ _ HT.out).mono ?_
  rintro e w2 ⟨kv, rfl, hks, hk2⟩
  clear hx
  have HA2 := hid (at_kept HA1.out hk2)
  have HK2 := hid (kept_trans HK1.out hk2)
  have HKS := hid hks
  clear hk2 hks
  obtain ⟨c0, c1, c2, c3, c4, c5, c6, fr⟩ := at_cells7 HA2.out
  obtain ⟨ka, km, kc, rfl⟩ := keys_slice HKS.out
  go_wp2_with fail
  refine bodyPost_ret (res2 rfl _ rfl rfl (at_set7 HA2.out _ _ _ _ _ _ _)) rfl ?_
  exact ⟨_, rfl, keys_set7' HKS.out HA2.out _ _ _ _ _ _ _, HY.out _ _ _ _ _ _ _ _ HK2.out⟩
set_option maxHeartbeats 1600000 in
set_option maxRecDepth 100000 in
theorem parse_version (s : ByteArray) (hs : s.size ≤ 4294967296) (c : Cm) (L : List ByteArray) (m n : Nat) (hm : m = L.length + 1) (hn : n = L.length) (x : ByteArray) (hx0 : x = ⟨#[118, 101, 114, 115, 105, 111, 110]⟩) (hw : words s = x :: L) (w : World) (hF : ∀ A o w1, Lay w1 A o L → Calls Try.prog 46 #[.int .i64 6, .slice (some ⟨A, o, none⟩) n n] w1 fun e w' => ∃ kv, e = .returned (.agg #[.int .i64 c.kind, kv, .int .u32 c.flags, .int .i64 c.exp, .string ⟨#[]⟩, .bool c.quiet, .string c.reply]) ∧ Keys w' kv c.keys ∧ Kept w1 w') :
    Calls Try.prog 33 #[.string s] w fun e w' => ∃ kv, e = .returned (.tuple #[.agg #[.int .i64 c.kind, kv, .int .u32 c.flags, .int .i64 c.exp, .string ⟨#[]⟩, .bool c.quiet, .string c.reply], .int .i64 (-1)]) ∧ Keys w' kv c.keys ∧ Kept w w' := by
  have hz := zero26
  have HA : Hid (At (w.alloc (.cells #[.int .i64 0, .slice none 0 0, .int .u32 0, .int .i64 0, .string ⟨#[]⟩, .bool false, .string ⟨#[]⟩] 38)) w.heap.size #[.int .i64 0, .slice none 0 0, .int .u32 0, .int .i64 0, .string ⟨#[]⟩, .bool false, .string ⟨#[]⟩] 38) := at_new _ _ _
  have HK : Hid (Kept w (w.alloc (.cells #[.int .i64 0, .slice none 0 0, .int .u32 0, .int .i64 0, .string ⟨#[]⟩, .bool false, .string ⟨#[]⟩] 38))) := kept_alloc (kept_refl w) _
  have HY : Hid (∀ (u : World) (a0 a1 a2 a3 a4 a5 a6 : Value), Kept w u → Kept w (set7 u w.heap.size a0 a1 a2 a3 a4 a5 a6)) := fun u a0 a1 a2 a3 a4 a5 a6 h => kept_set7 h (Nat.le_refl _) _ _ _ _ _ _ _
  have HFF : Hid (∀ w, Calls Try.prog 39 #[.string s, .func (.func 40) #[] #[]] w fun e w' => ∃ A, e = .returned (.slice (some ⟨A, 0, none⟩) m m) ∧ Lay w' A 0 (x :: L) ∧ Kept w w') := fun w => by
    have := fields_lay s hs w hw
    rw [List.length_cons, ← hm] at this
    exact this
  have h1 : ((m : Int) == 0) = false := by simp; omega
  have h2 : (1 : Int) ≤ (m : Int) := by omega
  have h3 : (0 : Int) < (m : Int) := by omega
  have HFn := hid hF
  have HLN : Hid (L.length = n) := hn.symm
  have HMN : Hid (m = n + 1) := by show m = n + 1; omega
  have HSL : Hid (∀ A w, _) := fun A w => tail_run A m n (by omega) w
  have gget : (x.toList == [103, 101, 116]) = false := by rw [txt_eq, hx0]; decide
  have gset : (x.toList == [115, 101, 116]) = false := by rw [txt_eq, hx0]; decide
  have gdelete : (x.toList == [100, 101, 108, 101, 116, 101]) = false := by rw [txt_eq, hx0]; decide
  have gtouch : (x.toList == [116, 111, 117, 99, 104]) = false := by rw [txt_eq, hx0]; decide
  have gstats : (x.toList == [115, 116, 97, 116, 115]) = false := by rw [txt_eq, hx0]; decide
  have gversion : (x.toList == [118, 101, 114, 115, 105, 111, 110]) = true := by rw [txt_eq, hx0]; decide
  clear hm hn hw hs hF hx0
  go_enter Try.func33, Try.ntmps33
  go_wp2_with fail
  generalize w.alloc (.cells #[.int .i64 0, .slice none 0 0, .int .u32 0, .int .i64 0, .string ⟨#[]⟩, .bool false, .string ⟨#[]⟩] 38) = wa at *
  generalize w.heap.size = X at *
  refine (HFF.out _).mono ?_
  rintro e w1 ⟨A, rfl, hl, hk1⟩
  have HL := hid hl
  have HA1 := hid (at_kept HA.out hk1)
  have HK1 := hid (kept_trans HK.out hk1)
  clear hk1
  have hx := lay_at HL.out 0 (by simp)
  have HT := hid (lay_rest HL.out HLN.out HMN.out)
  have hsl := HSL.out A
  generalize (if m = 1 then 0 else 1) = oo at *
  clear hl
  simp only [at', List.getD_cons_zero, Nat.add_zero] at hx
  go_wp2_with fail
  refine (HFn.out _ _ _ HT.out).mono ?_
  rintro e w2 ⟨kv, rfl, hks, hk2⟩
  clear hx
  have HA2 := hid (at_kept HA1.out hk2)
  have HK2 := hid (kept_trans HK1.out hk2)
  have HKS := hid hks
  clear hk2 hks
  obtain ⟨c0, c1, c2, c3, c4, c5, c6, fr⟩ := at_cells7 HA2.out
  obtain ⟨ka, km, kc, rfl⟩ := keys_slice HKS.out
  go_wp2_with fail
  refine bodyPost_ret (res2 rfl _ rfl rfl (at_set7 HA2.out _ _ _ _ _ _ _)) rfl ?_
  exact ⟨_, rfl, keys_set7' HKS.out HA2.out _ _ _ _ _ _ _, HY.out _ _ _ _ _ _ _ _ HK2.out⟩
set_option maxHeartbeats 1600000 in
set_option maxRecDepth 100000 in
theorem parse_quit (s : ByteArray) (hs : s.size ≤ 4294967296) (c : Cm) (L : List ByteArray) (m n : Nat) (hm : m = L.length + 1) (hn : n = L.length) (x : ByteArray) (hx0 : x = ⟨#[113, 117, 105, 116]⟩) (hw : words s = x :: L) (w : World) (hF : ∀ A o w1, Lay w1 A o L → Calls Try.prog 46 #[.int .i64 7, .slice (some ⟨A, o, none⟩) n n] w1 fun e w' => ∃ kv, e = .returned (.agg #[.int .i64 c.kind, kv, .int .u32 c.flags, .int .i64 c.exp, .string ⟨#[]⟩, .bool c.quiet, .string c.reply]) ∧ Keys w' kv c.keys ∧ Kept w1 w') :
    Calls Try.prog 33 #[.string s] w fun e w' => ∃ kv, e = .returned (.tuple #[.agg #[.int .i64 c.kind, kv, .int .u32 c.flags, .int .i64 c.exp, .string ⟨#[]⟩, .bool c.quiet, .string c.reply], .int .i64 (-1)]) ∧ Keys w' kv c.keys ∧ Kept w w' := by
  have hz := zero26
  have HA : Hid (At (w.alloc (.cells #[.int .i64 0, .slice none 0 0, .int .u32 0, .int .i64 0, .string ⟨#[]⟩, .bool false, .string ⟨#[]⟩] 38)) w.heap.size #[.int .i64 0, .slice none 0 0, .int .u32 0, .int .i64 0, .string ⟨#[]⟩, .bool false, .string ⟨#[]⟩] 38) := at_new _ _ _
  have HK : Hid (Kept w (w.alloc (.cells #[.int .i64 0, .slice none 0 0, .int .u32 0, .int .i64 0, .string ⟨#[]⟩, .bool false, .string ⟨#[]⟩] 38))) := kept_alloc (kept_refl w) _
  have HY : Hid (∀ (u : World) (a0 a1 a2 a3 a4 a5 a6 : Value), Kept w u → Kept w (set7 u w.heap.size a0 a1 a2 a3 a4 a5 a6)) := fun u a0 a1 a2 a3 a4 a5 a6 h => kept_set7 h (Nat.le_refl _) _ _ _ _ _ _ _
  have HFF : Hid (∀ w, Calls Try.prog 39 #[.string s, .func (.func 40) #[] #[]] w fun e w' => ∃ A, e = .returned (.slice (some ⟨A, 0, none⟩) m m) ∧ Lay w' A 0 (x :: L) ∧ Kept w w') := fun w => by
    have := fields_lay s hs w hw
    rw [List.length_cons, ← hm] at this
    exact this
  have h1 : ((m : Int) == 0) = false := by simp; omega
  have h2 : (1 : Int) ≤ (m : Int) := by omega
  have h3 : (0 : Int) < (m : Int) := by omega
  have HFn := hid hF
  have HLN : Hid (L.length = n) := hn.symm
  have HMN : Hid (m = n + 1) := by show m = n + 1; omega
  have HSL : Hid (∀ A w, _) := fun A w => tail_run A m n (by omega) w
  have gget : (x.toList == [103, 101, 116]) = false := by rw [txt_eq, hx0]; decide
  have gset : (x.toList == [115, 101, 116]) = false := by rw [txt_eq, hx0]; decide
  have gdelete : (x.toList == [100, 101, 108, 101, 116, 101]) = false := by rw [txt_eq, hx0]; decide
  have gtouch : (x.toList == [116, 111, 117, 99, 104]) = false := by rw [txt_eq, hx0]; decide
  have gstats : (x.toList == [115, 116, 97, 116, 115]) = false := by rw [txt_eq, hx0]; decide
  have gversion : (x.toList == [118, 101, 114, 115, 105, 111, 110]) = false := by rw [txt_eq, hx0]; decide
  have gquit : (x.toList == [113, 117, 105, 116]) = true := by rw [txt_eq, hx0]; decide
  clear hm hn hw hs hF hx0
  go_enter Try.func33, Try.ntmps33
  go_wp2_with fail
  generalize w.alloc (.cells #[.int .i64 0, .slice none 0 0, .int .u32 0, .int .i64 0, .string ⟨#[]⟩, .bool false, .string ⟨#[]⟩] 38) = wa at *
  generalize w.heap.size = X at *
  refine (HFF.out _).mono ?_
  rintro e w1 ⟨A, rfl, hl, hk1⟩
  have HL := hid hl
  have HA1 := hid (at_kept HA.out hk1)
  have HK1 := hid (kept_trans HK.out hk1)
  clear hk1
  have hx := lay_at HL.out 0 (by simp)
  have HT := hid (lay_rest HL.out HLN.out HMN.out)
  have hsl := HSL.out A
  generalize (if m = 1 then 0 else 1) = oo at *
  clear hl
  simp only [at', List.getD_cons_zero, Nat.add_zero] at hx
  go_wp2_with fail
  refine (HFn.out _ _ _ HT.out).mono ?_
  rintro e w2 ⟨kv, rfl, hks, hk2⟩
  clear hx
  have HA2 := hid (at_kept HA1.out hk2)
  have HK2 := hid (kept_trans HK1.out hk2)
  have HKS := hid hks
  clear hk2 hks
  obtain ⟨c0, c1, c2, c3, c4, c5, c6, fr⟩ := at_cells7 HA2.out
  obtain ⟨ka, km, kc, rfl⟩ := keys_slice HKS.out
  go_wp2_with fail
  refine bodyPost_ret (res2 rfl _ rfl rfl (at_set7 HA2.out _ _ _ _ _ _ _)) rfl ?_
  exact ⟨_, rfl, keys_set7' HKS.out HA2.out _ _ _ _ _ _ _, HY.out _ _ _ _ _ _ _ _ HK2.out⟩
set_option maxHeartbeats 1600000 in
set_option maxRecDepth 100000 in
theorem parse_none (s : ByteArray) (hs : s.size ≤ 4294967296) (c : Cm) (hc : c = bad rErr) (w : World) (hw : words s = []) :
    Calls Try.prog 33 #[.string s] w fun e w' => ∃ kv, e = .returned (.tuple #[.agg #[.int .i64 c.kind, kv, .int .u32 c.flags, .int .i64 c.exp, .string ⟨#[]⟩, .bool c.quiet, .string c.reply], .int .i64 (-1)]) ∧ Keys w' kv c.keys ∧ Kept w w' := by
  have hz := zero26
  have HA : Hid (At (w.alloc (.cells #[.int .i64 0, .slice none 0 0, .int .u32 0, .int .i64 0, .string ⟨#[]⟩, .bool false, .string ⟨#[]⟩] 38)) w.heap.size #[.int .i64 0, .slice none 0 0, .int .u32 0, .int .i64 0, .string ⟨#[]⟩, .bool false, .string ⟨#[]⟩] 38) := at_new _ _ _
  have HK : Hid (Kept w (w.alloc (.cells #[.int .i64 0, .slice none 0 0, .int .u32 0, .int .i64 0, .string ⟨#[]⟩, .bool false, .string ⟨#[]⟩] 38))) := kept_alloc (kept_refl w) _
  have HY : Hid (∀ (u : World) (a0 a1 a2 a3 a4 a5 a6 : Value), Kept w u → Kept w (set7 u w.heap.size a0 a1 a2 a3 a4 a5 a6)) := fun u a0 a1 a2 a3 a4 a5 a6 h => kept_set7 h (Nat.le_refl _) _ _ _ _ _ _ _
  have HFF : Hid (∀ w, Calls Try.prog 39 #[.string s, .func (.func 40) #[] #[]] w fun e w' => ∃ A, e = .returned (.slice (some ⟨A, 0, none⟩) 0 0) ∧ Lay w' A 0 [] ∧ Kept w w') := fun w => fields_lay s hs w hw
  clear hw hs
  have HC := hid hc
  clear hc
  go_enter Try.func33, Try.ntmps33
  go_wp2_with fail
  generalize w.alloc (.cells #[.int .i64 0, .slice none 0 0, .int .u32 0, .int .i64 0, .string ⟨#[]⟩, .bool false, .string ⟨#[]⟩] 38) = wa at *
  generalize w.heap.size = X at *
  refine (HFF.out _).mono ?_
  rintro e w1 ⟨A, rfl, hl, hk1⟩
  have HL := hid hl
  have HA1 := hid (at_kept HA.out hk1)
  have HK1 := hid (kept_trans HK.out hk1)
  clear hk1
  clear hl
  go_wp2_with fail
  refine (bad_any _ _).mono ?_
  rintro e w2 ⟨rfl, hk2⟩
  have HA2 := hid (at_kept HA1.out hk2)
  have HK2 := hid (kept_trans HK1.out hk2)
  clear hk2
  obtain ⟨c0, c1, c2, c3, c4, c5, c6, fr⟩ := at_cells7 HA2.out
  go_wp2_with fail
  refine bodyPost_ret (res2 rfl _ rfl rfl (at_set7 HA2.out _ _ _ _ _ _ _)) rfl ?_
  exact bad_end2 HC.out HA2.out HY.out HK2.out
set_option maxHeartbeats 1600000 in
set_option maxRecDepth 100000 in
theorem parse_other (s : ByteArray) (hs : s.size ≤ 4294967296) (c : Cm) (hc : c = bad rErr) (w : World) (x : ByteArray) (L : List ByteArray) (m n : Nat) (hm : m = L.length + 1) (hn : n = L.length) (hw : words s = x :: L) (n0 : x ≠ ⟨#[103, 101, 116]⟩) (n1 : x ≠ ⟨#[115, 101, 116]⟩) (n2 : x ≠ ⟨#[100, 101, 108, 101, 116, 101]⟩) (n3 : x ≠ ⟨#[116, 111, 117, 99, 104]⟩) (n4 : x ≠ ⟨#[115, 116, 97, 116, 115]⟩) (n5 : x ≠ ⟨#[118, 101, 114, 115, 105, 111, 110]⟩) (n6 : x ≠ ⟨#[113, 117, 105, 116]⟩) :
    Calls Try.prog 33 #[.string s] w fun e w' => ∃ kv, e = .returned (.tuple #[.agg #[.int .i64 c.kind, kv, .int .u32 c.flags, .int .i64 c.exp, .string ⟨#[]⟩, .bool c.quiet, .string c.reply], .int .i64 (-1)]) ∧ Keys w' kv c.keys ∧ Kept w w' := by
  have hz := zero26
  have HA : Hid (At (w.alloc (.cells #[.int .i64 0, .slice none 0 0, .int .u32 0, .int .i64 0, .string ⟨#[]⟩, .bool false, .string ⟨#[]⟩] 38)) w.heap.size #[.int .i64 0, .slice none 0 0, .int .u32 0, .int .i64 0, .string ⟨#[]⟩, .bool false, .string ⟨#[]⟩] 38) := at_new _ _ _
  have HK : Hid (Kept w (w.alloc (.cells #[.int .i64 0, .slice none 0 0, .int .u32 0, .int .i64 0, .string ⟨#[]⟩, .bool false, .string ⟨#[]⟩] 38))) := kept_alloc (kept_refl w) _
  have HY : Hid (∀ (u : World) (a0 a1 a2 a3 a4 a5 a6 : Value), Kept w u → Kept w (set7 u w.heap.size a0 a1 a2 a3 a4 a5 a6)) := fun u a0 a1 a2 a3 a4 a5 a6 h => kept_set7 h (Nat.le_refl _) _ _ _ _ _ _ _
  have HFF : Hid (∀ w, Calls Try.prog 39 #[.string s, .func (.func 40) #[] #[]] w fun e w' => ∃ A, e = .returned (.slice (some ⟨A, 0, none⟩) m m) ∧ Lay w' A 0 (x :: L) ∧ Kept w w') := fun w => by
    have := fields_lay s hs w hw
    rw [List.length_cons, ← hm] at this
    exact this
  have h1 : ((m : Int) == 0) = false := by simp; omega
  have h2 : (1 : Int) ≤ (m : Int) := by omega
  have h3 : (0 : Int) < (m : Int) := by omega
  have g0 : (x.toList == [103, 101, 116]) = false := by rw [txt_eq]; exact decide_eq_false n0
  have g1 : (x.toList == [115, 101, 116]) = false := by rw [txt_eq]; exact decide_eq_false n1
  have g2 : (x.toList == [100, 101, 108, 101, 116, 101]) = false := by rw [txt_eq]; exact decide_eq_false n2
  have g3 : (x.toList == [116, 111, 117, 99, 104]) = false := by rw [txt_eq]; exact decide_eq_false n3
  have g4 : (x.toList == [115, 116, 97, 116, 115]) = false := by rw [txt_eq]; exact decide_eq_false n4
  have g5 : (x.toList == [118, 101, 114, 115, 105, 111, 110]) = false := by rw [txt_eq]; exact decide_eq_false n5
  have g6 : (x.toList == [113, 117, 105, 116]) = false := by rw [txt_eq]; exact decide_eq_false n6
  have HSL : Hid (∀ A w, _) := fun A w => tail_run A m n (by omega) w
  clear hm hn hw hs n0 n1 n2 n3 n4 n5 n6
  have HC := hid hc
  clear hc
  go_enter Try.func33, Try.ntmps33
  go_wp2_with fail
  generalize w.alloc (.cells #[.int .i64 0, .slice none 0 0, .int .u32 0, .int .i64 0, .string ⟨#[]⟩, .bool false, .string ⟨#[]⟩] 38) = wa at *
  generalize w.heap.size = X at *
  refine (HFF.out _).mono ?_
  rintro e w1 ⟨A, rfl, hl, hk1⟩
  have HL := hid hl
  have HA1 := hid (at_kept HA.out hk1)
  have HK1 := hid (kept_trans HK.out hk1)
  clear hk1
  have hx := lay_at HL.out 0 (by simp)
  have hsl := HSL.out A
  generalize (if m = 1 then 0 else 1) = oo at *
  clear hl
  simp only [at', List.getD_cons_zero, Nat.add_zero] at hx
  go_wp2_with fail
  refine (bad_any _ _).mono ?_
  rintro e w2 ⟨rfl, hk2⟩
  have HA2 := hid (at_kept HA1.out hk2)
  have HK2 := hid (kept_trans HK1.out hk2)
  clear hk2
  obtain ⟨c0, c1, c2, c3, c4, c5, c6, fr⟩ := at_cells7 HA2.out
  go_wp2_with fail
  refine bodyPost_ret (res2 rfl _ rfl rfl (at_set7 HA2.out _ _ _ _ _ _ _)) rfl ?_
  exact bad_end2 HC.out HA2.out HY.out HK2.out
theorem alone_any (k : Int) (L : List ByteArray) (a : Option Addr) (m cap : Nat) (hm : m = L.length) (w : World) :
    Calls Try.prog 46 #[.int .i64 k, .slice a m cap] w fun e w' => ∃ kv, e = .returned (.agg #[.int .i64 (aloC k L).kind, kv, .int .u32 (aloC k L).flags, .int .i64 (aloC k L).exp, .string ⟨#[]⟩, .bool (aloC k L).quiet, .string (aloC k L).reply]) ∧ Keys w' kv (aloC k L).keys ∧ Kept w w' := by
  unfold aloC
  by_cases h : L.length = 0
  · rw [if_pos h]
    have h0 : m = 0 := by omega
    subst h0
    refine (alone_none a k cap w).mono ?_
    rintro e w' ⟨rfl, hk⟩
    exact ⟨_, rfl, keys_nil _, hk⟩
  · rw [if_neg h]
    refine (alone_some a k m cap (by omega) w).mono ?_
    rintro e w' ⟨rfl, hk⟩
    exact ⟨_, rfl, keys_nil _, hk⟩
theorem parseC_cons (x : ByteArray) (L : List ByteArray) : parseC (x :: L) =
    if x = ⟨#[103, 101, 116]⟩ then (getC L, -1)
    else if x = ⟨#[115, 101, 116]⟩ then (setC L, dat L)
    else if x = ⟨#[100, 101, 108, 101, 116, 101]⟩ then (delC L, -1)
    else if x = ⟨#[116, 111, 117, 99, 104]⟩ then (touC L, -1)
    else if x = ⟨#[115, 116, 97, 116, 115]⟩ then (aloC 5 L, -1)
    else if x = ⟨#[118, 101, 114, 115, 105, 111, 110]⟩ then (aloC 6 L, -1)
    else if x = ⟨#[113, 117, 105, 116]⟩ then (aloC 7 L, -1)
    else (bad rErr, -1) := rfl
theorem Parse_any (s : ByteArray) (hs : s.size ≤ 4294967296) (w : World) :
    Calls Try.prog 33 #[.string s] w fun e w' => ∃ kv, e = .returned (.tuple #[.agg #[.int .i64 (parseC (words s)).1.kind, kv, .int .u32 (parseC (words s)).1.flags, .int .i64 (parseC (words s)).1.exp, .string ⟨#[]⟩, .bool (parseC (words s)).1.quiet, .string (parseC (words s)).1.reply], .int .i64 (parseC (words s)).2]) ∧ Keys w' kv (parseC (words s)).1.keys ∧ Kept w w' := by
  have hS := words_short s hs
  cases hw : words s with
  | nil => exact parse_none s hs _ rfl w hw
  | cons x L =>
    rw [hw] at hS
    have hSL : Short L := fun y hy => hS y (List.mem_cons_of_mem _ hy)
    rw [parseC_cons]
    by_cases h1 : x = ⟨#[103, 101, 116]⟩
    · rw [if_pos h1]
      exact parse_get s hs _ L _ _ rfl rfl x h1 hw w (fun A o w1 hl => get_any L A o _ (Nat.le_refl _) hSL w1 hl)
    rw [if_neg h1]
    by_cases h2 : x = ⟨#[115, 101, 116]⟩
    · rw [if_pos h2]
      exact parse_set s hs _ _ L _ _ rfl rfl x h2 hw w (fun A o w1 hl => set_any L A o _ (Nat.le_refl _) hSL w1 hl)
    rw [if_neg h2]
    by_cases h3 : x = ⟨#[100, 101, 108, 101, 116, 101]⟩
    · rw [if_pos h3]
      exact parse_delete s hs _ L _ _ rfl rfl x h3 hw w (fun A o w1 hl => remove_any L A o _ (Nat.le_refl _) hSL w1 hl)
    rw [if_neg h3]
    by_cases h4 : x = ⟨#[116, 111, 117, 99, 104]⟩
    · rw [if_pos h4]
      exact parse_touch s hs _ L _ _ rfl rfl x h4 hw w (fun A o w1 hl => touch_any L A o _ (Nat.le_refl _) hSL w1 hl)
    rw [if_neg h4]
    by_cases h5 : x = ⟨#[115, 116, 97, 116, 115]⟩
    · rw [if_pos h5]
      exact parse_stats s hs _ L _ _ rfl rfl x h5 hw w (fun A o w1 hl => alone_any 5 L _ _ _ rfl w1)
    rw [if_neg h5]
    by_cases h6 : x = ⟨#[118, 101, 114, 115, 105, 111, 110]⟩
    · rw [if_pos h6]
      exact parse_version s hs _ L _ _ rfl rfl x h6 hw w (fun A o w1 hl => alone_any 6 L _ _ _ rfl w1)
    rw [if_neg h6]
    by_cases h7 : x = ⟨#[113, 117, 105, 116]⟩
    · rw [if_pos h7]
      exact parse_quit s hs _ L _ _ rfl rfl x h7 hw w (fun A o w1 hl => alone_any 7 L _ _ _ rfl w1)
    rw [if_neg h7]
    exact parse_other s hs _ rfl w x L _ _ rfl rfl hw h1 h2 h3 h4 h5 h6 h7
end Go.Proofs.Ytjlojkcdglocbaa
