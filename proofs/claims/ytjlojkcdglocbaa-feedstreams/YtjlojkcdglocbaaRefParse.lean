/- The contract of the reference's Parse: it answers what the plain function does of the line's words. The line has at most 5000 bytes. It turns nothing that was there. -/
import Derived.Test.YtjlojkcdglocbaaRefGet
namespace Go.Proofs.Ytjlojkcdglocbaa
open Go.ChangeShapes Go.WideShapes Go.ChangeAt Go.RowKit
set_option linter.unusedVariables false
set_option linter.unusedSimpArgs false

set_option maxHeartbeats 1600000 in
set_option maxRecDepth 100000 in
theorem rp_none (s : ByteArray) (c : Cm) (hc : c = bad rErr) (w : World)
    (hWd : ∀ w, Calls Try.prog 21 #[.string s] w fun e w' => ∃ a cap, e = .returned (.slice a 0 cap) ∧ Kept w w') :
    Calls Try.prog 16 #[.string s] w fun e w' => ∃ kv, e = .returned (.tuple #[.agg #[.int .i64 c.kind, kv, .int .u32 c.flags, .int .i64 c.exp, .string ⟨#[]⟩, .bool c.quiet, .string c.reply], .int .i64 (-1)]) ∧ Keys w' kv c.keys ∧ Kept w w' := by
  have hz := zero26
  have HA : Hid (At (w.alloc (.cells #[.int .i64 0, .slice none 0 0, .int .u32 0, .int .i64 0, .string ⟨#[]⟩, .bool false, .string ⟨#[]⟩] 38)) w.heap.size #[.int .i64 0, .slice none 0 0, .int .u32 0, .int .i64 0, .string ⟨#[]⟩, .bool false, .string ⟨#[]⟩] 38) := at_new _ _ _
  have HK : Hid (Kept w (w.alloc (.cells #[.int .i64 0, .slice none 0 0, .int .u32 0, .int .i64 0, .string ⟨#[]⟩, .bool false, .string ⟨#[]⟩] 38))) := kept_alloc (kept_refl w) _
  have HY : Hid (∀ (u : World) (a0 a1 a2 a3 a4 a5 a6 : Value), Kept w u → Kept w (set7 u w.heap.size a0 a1 a2 a3 a4 a5 a6)) := fun u a0 a1 a2 a3 a4 a5 a6 h => kept_set7 h (Nat.le_refl _) _ _ _ _ _ _ _
  have HWd := hid hWd
  clear hWd
  go_enter Try.func16, Try.ntmps16
  go_wp2_with fail
  generalize w.alloc (.cells #[.int .i64 0, .slice none 0 0, .int .u32 0, .int .i64 0, .string ⟨#[]⟩, .bool false, .string ⟨#[]⟩] 38) = wa at *
  generalize w.heap.size = X at *
  refine (HWd.out _).mono ?_
  rintro e w1 ⟨a, cap, rfl, hk1⟩
  have HA1 := hid (at_kept HA.out hk1)
  have HK1 := hid (kept_trans HK.out hk1)
  clear hk1
  go_wp2_with fail
  refine (Bad_fmt _).mono ?_
  rintro e w2 ⟨rfl, hk2⟩
  have AX := hid (at_alloc (at_kept HA1.out hk2) (.cells #[.int .i64 8, .slice none 0 0, .int .u32 0, .int .i64 0, .string ⟨#[]⟩, .bool false, .string rFmt] 38))
  have KV := hid (kept_alloc (kept_trans HK1.out hk2) (.cells #[.int .i64 8, .slice none 0 0, .int .u32 0, .int .i64 0, .string ⟨#[]⟩, .bool false, .string rFmt] 38))
  clear hk2 HA HK HA1
  go_wp2_with fail
  refine (Bad_err _).mono ?_
  rintro e w3 ⟨rfl, hk3⟩
  have AX3 := hid (at_kept AX.out hk3)
  have KV3 := hid (kept_trans KV.out hk3)
  clear hk3
  obtain ⟨c0, c1, c2, c3, c4, c5, c6, fr⟩ := at_cells7 AX3.out
  go_wp2_with fail
  refine bodyPost_ret (res2 rfl _ rfl rfl (at_set7 AX3.out _ _ _ _ _ _ _)) rfl ?_
  exact bad_end2 hc AX3.out HY.out KV3.out

set_option maxHeartbeats 1600000 in
set_option maxRecDepth 100000 in
theorem rp_set_1 (s : ByteArray) (x : ByteArray) (c : Cm) (d : Int) (hx0 : x = ⟨#[115, 101, 116]⟩) (w : World) (L : List ByteArray)
    (hWd : ∀ w, Calls Try.prog 21 #[.string s] w fun e w' => ∃ A cap, e = .returned (.slice (some ⟨A, 0, none⟩) 1 cap) ∧ (∀ u, Kept w' u → u.cell? ⟨A, 0, none⟩ = some (.string x) ∧ Lay u A 0 (x :: L)) ∧ Kept w w')
    (hSet : ∀ A cap u, Lay u A 0 (x :: L) → Calls Try.prog 24 #[.slice (some ⟨A, 0, none⟩) 1 cap, .bool false] u fun e w' => ∃ kv, e = .returned (.tuple #[.agg #[.int .i64 c.kind, kv, .int .u32 c.flags, .int .i64 c.exp, .string ⟨#[]⟩, .bool c.quiet, .string c.reply], .int .i64 d]) ∧ Keys w' kv c.keys ∧ Kept u w') :
    Calls Try.prog 16 #[.string s] w fun e w' => ∃ kv, e = .returned (.tuple #[.agg #[.int .i64 c.kind, kv, .int .u32 c.flags, .int .i64 c.exp, .string ⟨#[]⟩, .bool c.quiet, .string c.reply], .int .i64 d]) ∧ Keys w' kv c.keys ∧ Kept w w' := by
  have hz := zero26
  have HA : Hid (At (w.alloc (.cells #[.int .i64 0, .slice none 0 0, .int .u32 0, .int .i64 0, .string ⟨#[]⟩, .bool false, .string ⟨#[]⟩] 38)) w.heap.size #[.int .i64 0, .slice none 0 0, .int .u32 0, .int .i64 0, .string ⟨#[]⟩, .bool false, .string ⟨#[]⟩] 38) := at_new _ _ _
  have HK : Hid (Kept w (w.alloc (.cells #[.int .i64 0, .slice none 0 0, .int .u32 0, .int .i64 0, .string ⟨#[]⟩, .bool false, .string ⟨#[]⟩] 38))) := kept_alloc (kept_refl w) _
  have HY : Hid (∀ (u : World) (a0 a1 a2 a3 a4 a5 a6 : Value), Kept w u → Kept w (set7 u w.heap.size a0 a1 a2 a3 a4 a5 a6)) := fun u a0 a1 a2 a3 a4 a5 a6 h => kept_set7 h (Nat.le_refl _) _ _ _ _ _ _ _
  have HWd := hid hWd
  have HSet := hid hSet
  have gstats : (x.toList == [115, 116, 97, 116, 115]) = false := by rw [txt_eq, hx0]; decide
  have gversion : (x.toList == [118, 101, 114, 115, 105, 111, 110]) = false := by rw [txt_eq, hx0]; decide
  have gquit : (x.toList == [113, 117, 105, 116]) = false := by rw [txt_eq, hx0]; decide
  have gget : (x.toList == [103, 101, 116]) = false := by rw [txt_eq, hx0]; decide
  have gdelete : (x.toList == [100, 101, 108, 101, 116, 101]) = false := by rw [txt_eq, hx0]; decide
  have gtouch : (x.toList == [116, 111, 117, 99, 104]) = false := by rw [txt_eq, hx0]; decide
  have gset : (x.toList == [115, 101, 116]) = true := by rw [txt_eq, hx0]; decide
  clear hx0
  clear hWd hSet
  go_enter Try.func16, Try.ntmps16
  go_wp2_with fail
  generalize w.alloc (.cells #[.int .i64 0, .slice none 0 0, .int .u32 0, .int .i64 0, .string ⟨#[]⟩, .bool false, .string ⟨#[]⟩] 38) = wa at *
  generalize w.heap.size = X at *
  refine (HWd.out _).mono ?_
  rintro e w1 ⟨A, cap, rfl, hcl, hk1⟩
  have HCl := hid hcl
  have HA1 := hid (at_kept HA.out hk1)
  have HK1 := hid (kept_trans HK.out hk1)
  clear hcl hk1
  go_wp2_with fail
  refine (Bad_fmt _).mono ?_
  rintro e w2 ⟨rfl, hk2⟩
  have AX := hid (at_alloc (at_kept HA1.out hk2) (.cells #[.int .i64 8, .slice none 0 0, .int .u32 0, .int .i64 0, .string ⟨#[]⟩, .bool false, .string rFmt] 38))
  have AY := hid (at_new w2 #[.int .i64 8, .slice none 0 0, .int .u32 0, .int .i64 0, .string ⟨#[]⟩, .bool false, .string rFmt] 38)
  have KV := hid (kept_alloc (kept_trans HK1.out hk2) (.cells #[.int .i64 8, .slice none 0 0, .int .u32 0, .int .i64 0, .string ⟨#[]⟩, .bool false, .string rFmt] 38))
  obtain ⟨k0, klay⟩ := HCl.out _ (kept_alloc hk2 (.cells #[.int .i64 8, .slice none 0 0, .int .u32 0, .int .i64 0, .string ⟨#[]⟩, .bool false, .string rFmt] 38))
  have KU := hid (kept_alloc hk2 (.cells #[.int .i64 8, .slice none 0 0, .int .u32 0, .int .i64 0, .string ⟨#[]⟩, .bool false, .string rFmt] 38))
  have HLy := hid klay
  clear hk2 HA HK HA1 klay
  obtain ⟨y0, y1, y2, y3, y4, y5, y6, -⟩ := at_cells7 AY.out
  obtain ⟨c0, c1, c2, c3, c4, c5, c6, fr⟩ := at_cells7 AX.out
  go_wp2_with fail
  refine (HSet.out _ _ _ HLy.out).mono ?_
  rintro e w3 ⟨kv, rfl, hks, hk3⟩
  have AX3 := hid (at_kept AX.out hk3)
  have KV3 := hid (kept_trans KV.out hk3)
  have HKS := hid hks
  clear hk3 hks c0 c1 c2 c3 c4 c5 c6 fr
  obtain ⟨c0, c1, c2, c3, c4, c5, c6, fr⟩ := at_cells7 AX3.out
  obtain ⟨ka, km, kc, rfl⟩ := keys_slice HKS.out
  go_wp2_with fail
  refine bodyPost_ret (res2 rfl _ rfl rfl (at_set7 AX3.out _ _ _ _ _ _ _)) rfl ?_
  exact ⟨_, rfl, keys_set7' HKS.out AX3.out _ _ _ _ _ _ _, HY.out _ _ _ _ _ _ _ _ KV3.out⟩

set_option maxHeartbeats 1600000 in
set_option maxRecDepth 100000 in
theorem rp_set_n (s : ByteArray) (x y : ByteArray) (n : Nat) (c : Cm) (d : Int) (hx0 : x = ⟨#[115, 101, 116]⟩) (b : Bool) (hy : (y.toList == [110, 111, 114, 101, 112, 108, 121]) = b) (hn : 1 < n ∧ n ≤ 6000) (w : World) (L : List ByteArray)
    (hWd : ∀ w, Calls Try.prog 21 #[.string s] w fun e w' => ∃ A cap, e = .returned (.slice (some ⟨A, 0, none⟩) n cap) ∧ (∀ u, Kept w' u → u.cell? ⟨A, 0, none⟩ = some (.string x) ∧ u.cell? ⟨A, n - 1, none⟩ = some (.string y) ∧ Lay u A 0 (x :: L)) ∧ Kept w w')
    (hSet : ∀ A cap u, Lay u A 0 (x :: L) → Calls Try.prog 24 #[.slice (some ⟨A, 0, none⟩) n cap, .bool b] u fun e w' => ∃ kv, e = .returned (.tuple #[.agg #[.int .i64 c.kind, kv, .int .u32 c.flags, .int .i64 c.exp, .string ⟨#[]⟩, .bool c.quiet, .string c.reply], .int .i64 d]) ∧ Keys w' kv c.keys ∧ Kept u w') :
    Calls Try.prog 16 #[.string s] w fun e w' => ∃ kv, e = .returned (.tuple #[.agg #[.int .i64 c.kind, kv, .int .u32 c.flags, .int .i64 c.exp, .string ⟨#[]⟩, .bool c.quiet, .string c.reply], .int .i64 d]) ∧ Keys w' kv c.keys ∧ Kept w w' := by
  have hz := zero26
  have HA : Hid (At (w.alloc (.cells #[.int .i64 0, .slice none 0 0, .int .u32 0, .int .i64 0, .string ⟨#[]⟩, .bool false, .string ⟨#[]⟩] 38)) w.heap.size #[.int .i64 0, .slice none 0 0, .int .u32 0, .int .i64 0, .string ⟨#[]⟩, .bool false, .string ⟨#[]⟩] 38) := at_new _ _ _
  have HK : Hid (Kept w (w.alloc (.cells #[.int .i64 0, .slice none 0 0, .int .u32 0, .int .i64 0, .string ⟨#[]⟩, .bool false, .string ⟨#[]⟩] 38))) := kept_alloc (kept_refl w) _
  have HY : Hid (∀ (u : World) (a0 a1 a2 a3 a4 a5 a6 : Value), Kept w u → Kept w (set7 u w.heap.size a0 a1 a2 a3 a4 a5 a6)) := fun u a0 a1 a2 a3 a4 a5 a6 h => kept_set7 h (Nat.le_refl _) _ _ _ _ _ _ _
  have HWd := hid hWd
  have HSet := hid hSet
  have gstats : (x.toList == [115, 116, 97, 116, 115]) = false := by rw [txt_eq, hx0]; decide
  have gversion : (x.toList == [118, 101, 114, 115, 105, 111, 110]) = false := by rw [txt_eq, hx0]; decide
  have gquit : (x.toList == [113, 117, 105, 116]) = false := by rw [txt_eq, hx0]; decide
  have gget : (x.toList == [103, 101, 116]) = false := by rw [txt_eq, hx0]; decide
  have gdelete : (x.toList == [100, 101, 108, 101, 116, 101]) = false := by rw [txt_eq, hx0]; decide
  have gtouch : (x.toList == [116, 111, 117, 99, 104]) = false := by rw [txt_eq, hx0]; decide
  have gset : (x.toList == [115, 101, 116]) = true := by rw [txt_eq, hx0]; decide
  clear hx0
  have n1 : (1 : Int) < (n : Int) := by omega
  have n0 : ((n : Int) == 0) = false := by simp; omega
  have hn6 : (n : Int) ≤ 6000 := by omega
  clear hn
  clear hWd hSet
  go_enter Try.func16, Try.ntmps16
  go_wp2_with fail
  generalize w.alloc (.cells #[.int .i64 0, .slice none 0 0, .int .u32 0, .int .i64 0, .string ⟨#[]⟩, .bool false, .string ⟨#[]⟩] 38) = wa at *
  generalize w.heap.size = X at *
  refine (HWd.out _).mono ?_
  rintro e w1 ⟨A, cap, rfl, hcl, hk1⟩
  have HCl := hid hcl
  have HA1 := hid (at_kept HA.out hk1)
  have HK1 := hid (kept_trans HK.out hk1)
  clear hcl hk1
  go_wp2_with fail
  refine (Bad_fmt _).mono ?_
  rintro e w2 ⟨rfl, hk2⟩
  have AX := hid (at_alloc (at_kept HA1.out hk2) (.cells #[.int .i64 8, .slice none 0 0, .int .u32 0, .int .i64 0, .string ⟨#[]⟩, .bool false, .string rFmt] 38))
  have AY := hid (at_new w2 #[.int .i64 8, .slice none 0 0, .int .u32 0, .int .i64 0, .string ⟨#[]⟩, .bool false, .string rFmt] 38)
  have KV := hid (kept_alloc (kept_trans HK1.out hk2) (.cells #[.int .i64 8, .slice none 0 0, .int .u32 0, .int .i64 0, .string ⟨#[]⟩, .bool false, .string rFmt] 38))
  obtain ⟨k0, k1, klay⟩ := HCl.out _ (kept_alloc hk2 (.cells #[.int .i64 8, .slice none 0 0, .int .u32 0, .int .i64 0, .string ⟨#[]⟩, .bool false, .string rFmt] 38))
  have KU := hid (kept_alloc hk2 (.cells #[.int .i64 8, .slice none 0 0, .int .u32 0, .int .i64 0, .string ⟨#[]⟩, .bool false, .string rFmt] 38))
  have HLy := hid klay
  clear hk2 HA HK HA1 klay
  obtain ⟨y0, y1, y2, y3, y4, y5, y6, -⟩ := at_cells7 AY.out
  obtain ⟨c0, c1, c2, c3, c4, c5, c6, fr⟩ := at_cells7 AX.out
  go_wp2_with fail
  refine (HSet.out _ _ _ HLy.out).mono ?_
  rintro e w3 ⟨kv, rfl, hks, hk3⟩
  have AX3 := hid (at_kept AX.out hk3)
  have KV3 := hid (kept_trans KV.out hk3)
  have HKS := hid hks
  clear hk3 hks c0 c1 c2 c3 c4 c5 c6 fr
  obtain ⟨c0, c1, c2, c3, c4, c5, c6, fr⟩ := at_cells7 AX3.out
  obtain ⟨ka, km, kc, rfl⟩ := keys_slice HKS.out
  go_wp2_with fail
  refine bodyPost_ret (res2 rfl _ rfl rfl (at_set7 AX3.out _ _ _ _ _ _ _)) rfl ?_
  exact ⟨_, rfl, keys_set7' HKS.out AX3.out _ _ _ _ _ _ _, HY.out _ _ _ _ _ _ _ _ KV3.out⟩
theorem words_lay (s : ByteArray) (hs : s.size ≤ 5000) (x : ByteArray) (L : List ByteArray) (hW : words s = x :: L) (w : World) :
    Calls Try.prog 21 #[.string s] w fun e w' => ∃ A cap, e = .returned (.slice (some ⟨A, 0, none⟩) (L.length + 1) cap) ∧ (∀ u, Kept w' u → Lay u A 0 (x :: L)) ∧ Kept w w' := by
  refine (Words_any s hs w).mono ?_
  rintro e w' ⟨v, rfl, hk, hw⟩
  rw [hW] at hk
  rcases hk with ⟨h0, _⟩ | ⟨A, cap, rfl, hA, hc⟩
  · cases h0
  · refine ⟨A, cap, rfl, fun u hu => lay_kept ⟨hA, fun i hi => by rw [Nat.zero_add]; exact hc i hi⟩ hu, hw⟩
theorem delC_not (L : List ByteArray) (h : (decide (L.length = 1) || quietW L 1) = false) : delC L = bad rFmt := by
  unfold delC; rw [h, Bool.false_and]; rfl
theorem touC_not (L : List ByteArray) (h : (decide (L.length = 2) || quietW L 2) = false) : touC L = bad rFmt := by
  unfold touC; rw [h, Bool.false_and]; rfl
theorem own_long (L : List ByteArray) (m : Nat) (h : m + 1 < L.length) : (decide (L.length = m) || quietW L m) = false := by
  unfold quietW
  rw [show decide (L.length = m) = false from decide_eq_false (by omega), show decide (L.length = m + 1) = false from decide_eq_false (by omega)]
  rfl
theorem own_short (L : List ByteArray) (m : Nat) (h : L.length < m) : (decide (L.length = m) || quietW L m) = false := by
  unfold quietW
  rw [show decide (L.length = m) = false from decide_eq_false (by omega), show decide (L.length = m + 1) = false from decide_eq_false (by omega)]
  rfl
theorem no_eq (y : ByteArray) : (y.toList == [110, 111, 114, 101, 112, 108, 121]) = decide (y = wNo) := txt_eq y _
theorem cons_at (x : ByteArray) (L : List ByteArray) (k : Nat) : at' (x :: L) (k + 1) = at' L k := rfl
theorem wd_1 (s : ByteArray) (hs : s.size ≤ 5000) (x : ByteArray) (L : List ByteArray) (hW : words s = x :: L) (hL : L = []) (w : World) : Calls Try.prog 21 #[.string s] w fun e w' => ∃ A cap, e = .returned (.slice (some ⟨A, 0, none⟩) 1 cap) ∧ (∀ u, Kept w' u → u.cell? ⟨A, 0, none⟩ = some (.string x)) ∧ Kept w w' := by
  subst hL
  refine (words_lay s hs x [] hW w).mono ?_
  rintro e w' ⟨A, cap, rfl, hl, hw⟩
  exact ⟨A, cap, rfl, fun u hu => lay_at (hl u hu) 0 (by simp), hw⟩
theorem wd_n (s : ByteArray) (hs : s.size ≤ 5000) (x : ByteArray) (L : List ByteArray) (hW : words s = x :: L) (w : World) : Calls Try.prog 21 #[.string s] w fun e w' => ∃ A cap, e = .returned (.slice (some ⟨A, 0, none⟩) (L.length + 1) cap) ∧ (∀ u, Kept w' u → u.cell? ⟨A, 0, none⟩ = some (.string x) ∧ u.cell? ⟨A, L.length + 1 - 1, none⟩ = some (.string (at' (x :: L) L.length))) ∧ Kept w w' := by
  refine (words_lay s hs x L hW w).mono ?_
  rintro e w' ⟨A, cap, rfl, hl, hw⟩
  refine ⟨A, cap, rfl, fun u hu => ⟨lay_at (hl u hu) 0 (by simp), ?_⟩, hw⟩
  have := lay_at (hl u hu) L.length (by simp)
  rw [Nat.zero_add] at this
  exact this
theorem wd_nl (s : ByteArray) (hs : s.size ≤ 5000) (x : ByteArray) (L : List ByteArray) (hW : words s = x :: L) (w : World) : Calls Try.prog 21 #[.string s] w fun e w' => ∃ A cap, e = .returned (.slice (some ⟨A, 0, none⟩) (L.length + 1) cap) ∧ (∀ u, Kept w' u → u.cell? ⟨A, 0, none⟩ = some (.string x) ∧ u.cell? ⟨A, L.length + 1 - 1, none⟩ = some (.string (at' (x :: L) L.length)) ∧ Lay u A 0 (x :: L)) ∧ Kept w w' := by
  refine (words_lay s hs x L hW w).mono ?_
  rintro e w' ⟨A, cap, rfl, hl, hw⟩
  refine ⟨A, cap, rfl, fun u hu => ⟨lay_at (hl u hu) 0 (by simp), ?_, hl u hu⟩, hw⟩
  have := lay_at (hl u hu) L.length (by simp)
  rw [Nat.zero_add] at this
  exact this
def PC (s : ByteArray) (w : World) (c : Cm) (d : Int) : Prop := Calls Try.prog 16 #[.string s] w fun e w' => ∃ kv, e = .returned (.tuple #[.agg #[.int .i64 c.kind, kv, .int .u32 c.flags, .int .i64 c.exp, .string ⟨#[]⟩, .bool c.quiet, .string c.reply], .int .i64 d]) ∧ Keys w' kv c.keys ∧ Kept w w'
theorem alo_ref (s : ByteArray) (hs : s.size ≤ 5000) (x : ByteArray) (L : List ByteArray) (hW : words s = x :: L) (hn : L.length + 1 ≤ 6000) (w : World) :
    (x = ⟨#[115, 116, 97, 116, 115]⟩ → PC s w (aloC 5 L) (-1)) ∧ (x = ⟨#[118, 101, 114, 115, 105, 111, 110]⟩ → PC s w (aloC 6 L) (-1)) ∧ (x = ⟨#[113, 117, 105, 116]⟩ → PC s w (aloC 7 L) (-1)) := by
  by_cases hL : L = []
  · have h0 : ∀ k, aloC k L = ⟨k, [], 0, 0, false, mt⟩ := fun k => by unfold aloC; rw [hL]; rfl
    rw [h0, h0, h0]
    exact ⟨fun h => rp_stats_1 s x _ rfl h w (wd_1 s hs x L hW hL), fun h => rp_version_1 s x _ rfl h w (wd_1 s hs x L hW hL), fun h => rp_quit_1 s x _ rfl h w (wd_1 s hs x L hW hL)⟩
  · have hl : L.length ≠ 0 := fun h => hL (List.length_eq_zero_iff.1 h)
    have h0 : ∀ k, aloC k L = bad rFmt := fun k => by unfold aloC; rw [if_neg hl]
    rw [h0, h0, h0]
    exact ⟨fun h => rp_stats_n s x _ _ _ rfl h _ (no_eq _) ⟨by omega, hn⟩ w (wd_n s hs x L hW), fun h => rp_version_n s x _ _ _ rfl h _ (no_eq _) ⟨by omega, hn⟩ w (wd_n s hs x L hW), fun h => rp_quit_n s x _ _ _ rfl h _ (no_eq _) ⟨by omega, hn⟩ w (wd_n s hs x L hW)⟩
theorem get_ref (s : ByteArray) (hs : s.size ≤ 5000) (x : ByteArray) (L : List ByteArray) (hW : words s = x :: L) (hS : Short L) (hn : L.length + 1 ≤ 6000) (w : World) (hx : x = ⟨#[103, 101, 116]⟩) : PC s w (getC L) (-1) := by
  by_cases hL : L = []
  · exact rp_get_1 s x _ (getC_bad L (by rw [hL]; exact .inl (by simp))) hx w (wd_1 s hs x L hW hL)
  · have hl : L.length ≠ 0 := fun h => hL (List.length_eq_zero_iff.1 h)
    by_cases h16 : 16 < L.length
    · exact rp_get_n s x _ _ _ (getC_bad L (.inr h16)) hx _ (no_eq _) ⟨by omega, hn⟩ w (wd_n s hs x L hW)
    · exact rp_get_loop s x _ _ L rfl hS _ rfl hx _ (no_eq _) ⟨by omega, by omega⟩ w (wd_nl s hs x L hW)
theorem set_ref (s : ByteArray) (hs : s.size ≤ 5000) (x : ByteArray) (L : List ByteArray) (hW : words s = x :: L) (hS : Short L) (hn : L.length + 1 ≤ 6000) (w : World) (hx : x = ⟨#[115, 101, 116]⟩) : PC s w (setC L) (dat L) := by
  by_cases hL : L = []
  · subst hL
    refine rp_set_1 s x _ _ hx w [] (fun w => ?_) (fun A cap u hl => refset_any x [] A cap false (fun h => by simp at h) hS u hl)
    refine (wd_nl s hs x [] hW w).mono ?_
    rintro e w' ⟨A, cap, rfl, hl, hw⟩
    exact ⟨A, cap, rfl, fun u hu => ⟨(hl u hu).1, (hl u hu).2.2⟩, hw⟩
  · have hl : L.length ≠ 0 := fun h => hL (List.length_eq_zero_iff.1 h)
    refine rp_set_n s x _ _ _ _ hx _ (no_eq _) ⟨by omega, hn⟩ w L (wd_nl s hs x L hW) (fun A cap u hl => refset_any x L A cap _ (fun h5 => ?_) hS u hl)
    rw [h5]
    rfl
theorem other_ref (s : ByteArray) (hs : s.size ≤ 5000) (x : ByteArray) (L : List ByteArray) (hW : words s = x :: L) (hn : L.length + 1 ≤ 6000) (w : World) (h1 : x ≠ ⟨#[103, 101, 116]⟩) (h2 : x ≠ ⟨#[115, 101, 116]⟩) (h3 : x ≠ ⟨#[100, 101, 108, 101, 116, 101]⟩) (h4 : x ≠ ⟨#[116, 111, 117, 99, 104]⟩) (h5 : x ≠ ⟨#[115, 116, 97, 116, 115]⟩) (h6 : x ≠ ⟨#[118, 101, 114, 115, 105, 111, 110]⟩) (h7 : x ≠ ⟨#[113, 117, 105, 116]⟩) : PC s w (bad rErr) (-1) := by
  by_cases hL : L = []
  · exact rp_other_1 s x _ rfl h5 h6 h7 h1 h3 h4 h2 w (wd_1 s hs x L hW hL)
  · have hl : L.length ≠ 0 := fun h => hL (List.length_eq_zero_iff.1 h)
    exact rp_other_n s x _ _ _ rfl h5 h6 h7 h1 h3 h4 h2 _ (no_eq _) ⟨by omega, hn⟩ w (wd_n s hs x L hW)
theorem del_ref (s : ByteArray) (hs : s.size ≤ 5000) (x : ByteArray) (L : List ByteArray) (hW : words s = x :: L) (hS : Short L) (hn : L.length + 1 ≤ 6000) (w : World) (hx : x = ⟨#[100, 101, 108, 101, 116, 101]⟩) : PC s w (delC L) (-1) := by
  match L, hW, hS, hn with
  | [], hW, hS, hn => exact rp_delete_1 s x _ (delC_not [] (own_short [] 1 (by simp))) hx w (wd_1 s hs x [] hW rfl)
  | [a], hW, hS, hn =>
    have hM := refKeyMay_any a (by have := hS a (by simp); unfold maxLen; omega)
    have hq : quietW [a] 1 = false := rfl
    cases hk : keyMay a with
    | false =>
      rw [hk] at hM
      exact rp_delete_2k s x a _ (by unfold delC; show (if (_ && keyMay a) = true then _ else _) = _; rw [hk, Bool.and_false]; rfl) hx _ (no_eq _) hM w (wd_n s hs x [a] hW)
    | true =>
      rw [hk] at hM
      exact rp_delete_2g s x a _ (by unfold delC; show (if (_ && keyMay a) = true then _ else _) = _; rw [hk, hq]; rfl) hx _ (no_eq _) hM w (wd_n s hs x [a] hW)
  | [a, y], hW, hS, hn =>
    have hM := refKeyMay_any a (by have := hS a (by simp); unfold maxLen; omega)
    have hWd := fun w => (words_lay s hs x [a, y] hW w).mono (R' := fun e w' => ∃ A cap, e = .returned (.slice (some ⟨A, 0, none⟩) 3 cap) ∧ (∀ u, Kept w' u → u.cell? ⟨A, 0, none⟩ = some (.string x) ∧ u.cell? ⟨A, 1, none⟩ = some (.string a) ∧ u.cell? ⟨A, 2, none⟩ = some (.string y)) ∧ Kept w w') (by
      rintro e w' ⟨A, cap, rfl, hl, hw⟩
      exact ⟨A, cap, rfl, fun u hu => ⟨lay_at (hl u hu) 0 (by simp), lay_at (hl u hu) 1 (by simp), lay_at (hl u hu) 2 (by simp)⟩, hw⟩)
    have hq : quietW [a, y] 1 = decide (y = wNo) := rfl
    by_cases hy : y = wNo
    · have hyt := (no_eq y).trans (decide_eq_true hy)
      cases hk : keyMay a with
      | false =>
        rw [hk] at hM
        exact rp_delete_3k s x a y _ (by unfold delC; show (if (_ && keyMay a) = true then _ else _) = _; rw [hk, Bool.and_false]; rfl) hx hyt hM w hWd
      | true =>
        rw [hk] at hM
        exact rp_delete_3g s x a y _ (by unfold delC; show (if (_ && keyMay a) = true then _ else _) = _; rw [hk, hq, decide_eq_true hy]; rfl) hx hyt hM w hWd
    · have hyf := (no_eq y).trans (decide_eq_false hy)
      exact rp_delete_3l s x a y _ (delC_not _ (by rw [hq, decide_eq_false hy]; rfl)) hx hyf w hWd
  | a :: b :: d :: L', hW, hS, hn =>
    exact rp_delete_n s x _ _ _ (delC_not _ (own_long _ 1 (by simp))) hx _ (no_eq _) ⟨by simp, hn⟩ w (wd_n s hs x _ hW)
theorem tou_ref (s : ByteArray) (hs : s.size ≤ 5000) (x : ByteArray) (L : List ByteArray) (hW : words s = x :: L) (hS : Short L) (hn : L.length + 1 ≤ 6000) (w : World) (hx : x = ⟨#[116, 111, 117, 99, 104]⟩) : PC s w (touC L) (-1) := by
  match L, hW, hS, hn with
  | [], hW, hS, hn => exact rp_touch_1 s x _ (touC_not [] (own_short [] 2 (by simp))) hx w (wd_1 s hs x [] hW rfl)
  | [a], hW, hS, hn => exact rp_touch_2 s x a _ (touC_not [a] (own_short [a] 2 (by simp))) hx _ (no_eq _) w (wd_n s hs x [a] hW)
  | [a, y], hW, hS, hn =>
    have hM := refKeyMay_any a (by have := hS a (by simp); unfold maxLen; omega)
    obtain ⟨tx, htx, hT⟩ := refTime_any y (by have := hS y (by simp); omega)
    have hWd := fun w => (words_lay s hs x [a, y] hW w).mono (R' := fun e w' => ∃ A cap, e = .returned (.slice (some ⟨A, 0, none⟩) 3 cap) ∧ (∀ u, Kept w' u → u.cell? ⟨A, 0, none⟩ = some (.string x) ∧ u.cell? ⟨A, 1, none⟩ = some (.string a) ∧ u.cell? ⟨A, 2, none⟩ = some (.string y)) ∧ Kept w w') (by
      rintro e w' ⟨A, cap, rfl, hl, hw⟩
      exact ⟨A, cap, rfl, fun u hu => ⟨lay_at (hl u hu) 0 (by simp), lay_at (hl u hu) 1 (by simp), lay_at (hl u hu) 2 (by simp)⟩, hw⟩)
    have hq : quietW [a, y] 2 = false := rfl
    cases hk : keyMay a with
    | false =>
      rw [hk] at hM
      exact rp_touch_3k s x a y _ (by unfold touC; show (if (_ && keyMay a) = true then _ else _) = _; rw [hk, Bool.and_false]; rfl) hx _ (no_eq _) hM w hWd
    | true =>
      rw [hk] at hM
      cases ht : tim y with
      | none =>
        rw [ht] at hT
        exact rp_touch_3t s x a y _ tx (by unfold touC; show (if (_ && keyMay a) = true then (match tim y with | some t => (⟨4, [a], 0, t, quietW [a, y] 2, mt⟩ : Cm) | none => bad rFmt) else _) = _; rw [hk, hq, ht]; rfl) hx _ (no_eq _) hM hT w hWd
      | some t =>
        rw [htx t ht, ht] at hT
        exact rp_touch_3g s x a y _ t (by unfold touC; show (if (_ && keyMay a) = true then (match tim y with | some t => (⟨4, [a], 0, t, quietW [a, y] 2, mt⟩ : Cm) | none => bad rFmt) else _) = _; rw [hk, hq, ht]; rfl) hx _ (no_eq _) hM hT w hWd
  | [a, z, y], hW, hS, hn =>
    have hM := refKeyMay_any a (by have := hS a (by simp); unfold maxLen; omega)
    obtain ⟨tx, htx, hT⟩ := refTime_any z (by have := hS z (by simp); omega)
    have hWd := fun w => (words_lay s hs x [a, z, y] hW w).mono (R' := fun e w' => ∃ A cap, e = .returned (.slice (some ⟨A, 0, none⟩) 4 cap) ∧ (∀ u, Kept w' u → u.cell? ⟨A, 0, none⟩ = some (.string x) ∧ u.cell? ⟨A, 1, none⟩ = some (.string a) ∧ u.cell? ⟨A, 2, none⟩ = some (.string z) ∧ u.cell? ⟨A, 3, none⟩ = some (.string y)) ∧ Kept w w') (by
      rintro e w' ⟨A, cap, rfl, hl, hw⟩
      exact ⟨A, cap, rfl, fun u hu => ⟨lay_at (hl u hu) 0 (by simp), lay_at (hl u hu) 1 (by simp), lay_at (hl u hu) 2 (by simp), lay_at (hl u hu) 3 (by simp)⟩, hw⟩)
    have hq : quietW [a, z, y] 2 = decide (y = wNo) := rfl
    by_cases hy : y = wNo
    · have hyt := (no_eq y).trans (decide_eq_true hy)
      cases hk : keyMay a with
      | false =>
        rw [hk] at hM
        exact rp_touch_4k s x a z y _ (by unfold touC; show (if (_ && keyMay a) = true then _ else _) = _; rw [hk, Bool.and_false]; rfl) hx hyt hM w hWd
      | true =>
        rw [hk] at hM
        cases ht : tim z with
        | none =>
          rw [ht] at hT
          exact rp_touch_4t s x a z y _ tx (by unfold touC; show (if (_ && keyMay a) = true then (match tim z with | some t => (⟨4, [a], 0, t, quietW [a, z, y] 2, mt⟩ : Cm) | none => bad rFmt) else _) = _; rw [hk, hq, ht, decide_eq_true hy]; rfl) hx hyt hM hT w hWd
        | some t =>
          rw [htx t ht, ht] at hT
          exact rp_touch_4g s x a z y _ t (by unfold touC; show (if (_ && keyMay a) = true then (match tim z with | some t => (⟨4, [a], 0, t, quietW [a, z, y] 2, mt⟩ : Cm) | none => bad rFmt) else _) = _; rw [hk, hq, ht, decide_eq_true hy]; rfl) hx hyt hM hT w hWd
    · have hyf := (no_eq y).trans (decide_eq_false hy)
      exact rp_touch_4l s x a z y _ (touC_not _ (by rw [hq, decide_eq_false hy]; rfl)) hx hyf w hWd
  | a :: b :: d :: e :: L', hW, hS, hn =>
    exact rp_touch_n s x _ _ _ (touC_not _ (own_long _ 2 (by simp))) hx _ (no_eq _) ⟨by simp, hn⟩ w (wd_n s hs x _ hW)
theorem RefParse_any (s : ByteArray) (hs : s.size ≤ 5000) (w : World) : PC s w (parseC (words s)).1 (parseC (words s)).2 := by
  have hS := words_short s (by omega)
  have hF := words_few s
  cases hw : words s with
  | nil =>
    refine rp_none s _ rfl w (fun w => ?_)
    refine (Words_any s hs w).mono ?_
    rintro e w' ⟨v, rfl, hk, hkp⟩
    rw [hw] at hk
    rcases hk with ⟨_, rfl⟩ | ⟨A, cap, rfl, _, _⟩
    · exact ⟨none, 0, rfl, hkp⟩
    · exact ⟨_, _, rfl, hkp⟩
  | cons x L =>
    rw [hw] at hS hF
    have hSL : Short L := fun y hy => hS y (List.mem_cons_of_mem _ hy)
    have hn : L.length + 1 ≤ 6000 := by rw [List.length_cons] at hF; omega
    rw [parseC_cons]
    by_cases h1 : x = ⟨#[103, 101, 116]⟩
    · rw [if_pos h1]; exact get_ref s hs x L hw hSL hn w h1
    rw [if_neg h1]
    by_cases h2 : x = ⟨#[115, 101, 116]⟩
    · rw [if_pos h2]; exact set_ref s hs x L hw hSL hn w h2
    rw [if_neg h2]
    by_cases h3 : x = ⟨#[100, 101, 108, 101, 116, 101]⟩
    · rw [if_pos h3]; exact del_ref s hs x L hw hSL hn w h3
    rw [if_neg h3]
    by_cases h4 : x = ⟨#[116, 111, 117, 99, 104]⟩
    · rw [if_pos h4]; exact tou_ref s hs x L hw hSL hn w h4
    rw [if_neg h4]
    by_cases h5 : x = ⟨#[115, 116, 97, 116, 115]⟩
    · rw [if_pos h5]; exact (alo_ref s hs x L hw hn w).1 h5
    rw [if_neg h5]
    by_cases h6 : x = ⟨#[118, 101, 114, 115, 105, 111, 110]⟩
    · rw [if_pos h6]; exact (alo_ref s hs x L hw hn w).2.1 h6
    rw [if_neg h6]
    by_cases h7 : x = ⟨#[113, 117, 105, 116]⟩
    · rw [if_pos h7]; exact (alo_ref s hs x L hw hn w).2.2 h7
    rw [if_neg h7]
    exact other_ref s hs x L hw hn w h1 h2 h3 h4 h5 h6 h7
end Go.Proofs.Ytjlojkcdglocbaa
