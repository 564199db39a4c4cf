/- The contract of the reference's Parse, of the lines that it tells by their first word and their number of words alone. It turns nothing that was there. -/
import Derived.Test.YtjlojkcdglocbaaRefSetA
namespace Go.Proofs.Ytjlojkcdglocbaa
open Go.ChangeShapes Go.WideShapes Go.ChangeAt Go.RowKit
set_option linter.unusedVariables false
set_option linter.unusedSimpArgs false

set_option maxHeartbeats 1600000 in
set_option maxRecDepth 100000 in
theorem rp_stats_1 (s : ByteArray) (x : ByteArray) (c : Cm) (hc : c = ⟨5, [], 0, 0, false, mt⟩) (hx0 : x = ⟨#[115, 116, 97, 116, 115]⟩) (w : World)
    (hWd : ∀ w, Calls Try.prog 21 #[.string s] w fun e w' => ∃ A cap, e = .returned (.slice (some ⟨A, 0, none⟩) 1 cap) ∧ (∀ u, Kept w' u → u.cell? ⟨A, 0, none⟩ = some (.string x)) ∧ Kept w w') :
    Calls Try.prog 16 #[.string s] w fun e w' => ∃ kv, e = .returned (.tuple #[.agg #[.int .i64 c.kind, kv, .int .u32 c.flags, .int .i64 c.exp, .string ⟨#[]⟩, .bool c.quiet, .string c.reply], .int .i64 (-1)]) ∧ Keys w' kv c.keys ∧ Kept w w' := by
  have hz := zero26
  have HA : Hid (At (w.alloc (.cells #[.int .i64 0, .slice none 0 0, .int .u32 0, .int .i64 0, .string ⟨#[]⟩, .bool false, .string ⟨#[]⟩] 38)) w.heap.size #[.int .i64 0, .slice none 0 0, .int .u32 0, .int .i64 0, .string ⟨#[]⟩, .bool false, .string ⟨#[]⟩] 38) := at_new _ _ _
  have HK : Hid (Kept w (w.alloc (.cells #[.int .i64 0, .slice none 0 0, .int .u32 0, .int .i64 0, .string ⟨#[]⟩, .bool false, .string ⟨#[]⟩] 38))) := kept_alloc (kept_refl w) _
  have HY : Hid (∀ (u : World) (a0 a1 a2 a3 a4 a5 a6 : Value), Kept w u → Kept w (set7 u w.heap.size a0 a1 a2 a3 a4 a5 a6)) := fun u a0 a1 a2 a3 a4 a5 a6 h => kept_set7 h (Nat.le_refl _) _ _ _ _ _ _ _
  have HWd := hid hWd
  have gstats : (x.toList == [115, 116, 97, 116, 115]) = true := by rw [txt_eq, hx0]; decide
  clear hx0
  clear hWd
  go_enter Try.func16, Try.ntmps16
  go_wp2_with fail
  generalize w.alloc (.cells #[.int .i64 0, .slice none 0 0, .int .u32 0, .int .i64 0, .string ⟨#[]⟩, .bool false, .string ⟨#[]⟩] 38) = wa at *
  generalize w.heap.size = X at *
  refine (HWd.out _).mono ?_
  rintro e w1 ⟨A, cap, rfl, hcl, hk1⟩
  have HCl := hid hcl
  have HA1 := hid (at_kept HA.out hk1)
  have HK1 := hid (kept_trans HK.out hk1)
  clear hcl hk1
  go_wp2_with fail
  refine (Bad_fmt _).mono ?_
  rintro e w2 ⟨rfl, hk2⟩
  have AX := hid (at_alloc (at_kept HA1.out hk2) (.cells #[.int .i64 8, .slice none 0 0, .int .u32 0, .int .i64 0, .string ⟨#[]⟩, .bool false, .string rFmt] 38))
  have AY := hid (at_new w2 #[.int .i64 8, .slice none 0 0, .int .u32 0, .int .i64 0, .string ⟨#[]⟩, .bool false, .string rFmt] 38)
  have KV := hid (kept_alloc (kept_trans HK1.out hk2) (.cells #[.int .i64 8, .slice none 0 0, .int .u32 0, .int .i64 0, .string ⟨#[]⟩, .bool false, .string rFmt] 38))
  have k0 := HCl.out _ (kept_alloc hk2 (.cells #[.int .i64 8, .slice none 0 0, .int .u32 0, .int .i64 0, .string ⟨#[]⟩, .bool false, .string rFmt] 38))
  have KU := hid (kept_alloc hk2 (.cells #[.int .i64 8, .slice none 0 0, .int .u32 0, .int .i64 0, .string ⟨#[]⟩, .bool false, .string rFmt] 38))
  clear hk2 HA HK HA1
  obtain ⟨y0, y1, y2, y3, y4, y5, y6, -⟩ := at_cells7 AY.out
  obtain ⟨c0, c1, c2, c3, c4, c5, c6, fr⟩ := at_cells7 AX.out
  go_wp2_with fail
  refine bodyPost_ret (res2 rfl _ rfl rfl (at_set7 AX.out _ _ _ _ _ _ _)) rfl ?_
  subst hc
  exact ⟨_, rfl, keys_nil _, HY.out _ _ _ _ _ _ _ _ KV.out⟩
set_option maxHeartbeats 1600000 in
set_option maxRecDepth 100000 in
theorem rp_stats_n (s : ByteArray) (x y : ByteArray) (n : Nat) (c : Cm) (hc : c = bad rFmt) (hx0 : x = ⟨#[115, 116, 97, 116, 115]⟩) (b : Bool) (hy : (y.toList == [110, 111, 114, 101, 112, 108, 121]) = b) (hn : 1 < n ∧ n ≤ 6000) (w : World)
    (hWd : ∀ w, Calls Try.prog 21 #[.string s] w fun e w' => ∃ A cap, e = .returned (.slice (some ⟨A, 0, none⟩) n cap) ∧ (∀ u, Kept w' u → u.cell? ⟨A, 0, none⟩ = some (.string x) ∧ u.cell? ⟨A, n - 1, none⟩ = some (.string y)) ∧ Kept w w') :
    Calls Try.prog 16 #[.string s] w fun e w' => ∃ kv, e = .returned (.tuple #[.agg #[.int .i64 c.kind, kv, .int .u32 c.flags, .int .i64 c.exp, .string ⟨#[]⟩, .bool c.quiet, .string c.reply], .int .i64 (-1)]) ∧ Keys w' kv c.keys ∧ Kept w w' := by
  have hz := zero26
  have HA : Hid (At (w.alloc (.cells #[.int .i64 0, .slice none 0 0, .int .u32 0, .int .i64 0, .string ⟨#[]⟩, .bool false, .string ⟨#[]⟩] 38)) w.heap.size #[.int .i64 0, .slice none 0 0, .int .u32 0, .int .i64 0, .string ⟨#[]⟩, .bool false, .string ⟨#[]⟩] 38) := at_new _ _ _
  have HK : Hid (Kept w (w.alloc (.cells #[.int .i64 0, .slice none 0 0, .int .u32 0, .int .i64 0, .string ⟨#[]⟩, .bool false, .string ⟨#[]⟩] 38))) := kept_alloc (kept_refl w) _
  have HY : Hid (∀ (u : World) (a0 a1 a2 a3 a4 a5 a6 : Value), Kept w u → Kept w (set7 u w.heap.size a0 a1 a2 a3 a4 a5 a6)) := fun u a0 a1 a2 a3 a4 a5 a6 h => kept_set7 h (Nat.le_refl _) _ _ _ _ _ _ _
  have HWd := hid hWd
  have gstats : (x.toList == [115, 116, 97, 116, 115]) = true := by rw [txt_eq, hx0]; decide
  clear hx0
  have n1 : (1 : Int) < (n : Int) := by omega
  have hn6 : (n : Int) ≤ 6000 := by omega
  clear hn
  clear hWd
  go_enter Try.func16, Try.ntmps16
  go_wp2_with fail
  generalize w.alloc (.cells #[.int .i64 0, .slice none 0 0, .int .u32 0, .int .i64 0, .string ⟨#[]⟩, .bool false, .string ⟨#[]⟩] 38) = wa at *
  generalize w.heap.size = X at *
  refine (HWd.out _).mono ?_
  rintro e w1 ⟨A, cap, rfl, hcl, hk1⟩
  have HCl := hid hcl
  have HA1 := hid (at_kept HA.out hk1)
  have HK1 := hid (kept_trans HK.out hk1)
  clear hcl hk1
  go_wp2_with fail
  refine (Bad_fmt _).mono ?_
  rintro e w2 ⟨rfl, hk2⟩
  have AX := hid (at_alloc (at_kept HA1.out hk2) (.cells #[.int .i64 8, .slice none 0 0, .int .u32 0, .int .i64 0, .string ⟨#[]⟩, .bool false, .string rFmt] 38))
  have AY := hid (at_new w2 #[.int .i64 8, .slice none 0 0, .int .u32 0, .int .i64 0, .string ⟨#[]⟩, .bool false, .string rFmt] 38)
  have KV := hid (kept_alloc (kept_trans HK1.out hk2) (.cells #[.int .i64 8, .slice none 0 0, .int .u32 0, .int .i64 0, .string ⟨#[]⟩, .bool false, .string rFmt] 38))
  obtain ⟨k0, k1⟩ := HCl.out _ (kept_alloc hk2 (.cells #[.int .i64 8, .slice none 0 0, .int .u32 0, .int .i64 0, .string ⟨#[]⟩, .bool false, .string rFmt] 38))
  have KU := hid (kept_alloc hk2 (.cells #[.int .i64 8, .slice none 0 0, .int .u32 0, .int .i64 0, .string ⟨#[]⟩, .bool false, .string rFmt] 38))
  clear hk2 HA HK HA1
  obtain ⟨y0, y1, y2, y3, y4, y5, y6, -⟩ := at_cells7 AY.out
  obtain ⟨c0, c1, c2, c3, c4, c5, c6, fr⟩ := at_cells7 AX.out
  go_wp2_with fail
  refine bodyPost_ret (res2 rfl _ rfl rfl (at_set7 AX.out _ _ _ _ _ _ _)) rfl ?_
  exact bad_end2 hc AX.out HY.out KV.out
set_option maxHeartbeats 1600000 in
set_option maxRecDepth 100000 in
theorem rp_version_1 (s : ByteArray) (x : ByteArray) (c : Cm) (hc : c = ⟨6, [], 0, 0, false, mt⟩) (hx0 : x = ⟨#[118, 101, 114, 115, 105, 111, 110]⟩) (w : World)
    (hWd : ∀ w, Calls Try.prog 21 #[.string s] w fun e w' => ∃ A cap, e = .returned (.slice (some ⟨A, 0, none⟩) 1 cap) ∧ (∀ u, Kept w' u → u.cell? ⟨A, 0, none⟩ = some (.string x)) ∧ Kept w w') :
    Calls Try.prog 16 #[.string s] w fun e w' => ∃ kv, e = .returned (.tuple #[.agg #[.int .i64 c.kind, kv, .int .u32 c.flags, .int .i64 c.exp, .string ⟨#[]⟩, .bool c.quiet, .string c.reply], .int .i64 (-1)]) ∧ Keys w' kv c.keys ∧ Kept w w' := by
  have hz := zero26
  have HA : Hid (At (w.alloc (.cells #[.int .i64 0, .slice none 0 0, .int .u32 0, .int .i64 0, .string ⟨#[]⟩, .bool false, .string ⟨#[]⟩] 38)) w.heap.size #[.int .i64 0, .slice none 0 0, .int .u32 0, .int .i64 0, .string ⟨#[]⟩, .bool false, .string ⟨#[]⟩] 38) := at_new _ _ _
  have HK : Hid (Kept w (w.alloc (.cells #[.int .i64 0, .slice none 0 0, .int .u32 0, .int .i64 0, .string ⟨#[]⟩, .bool false, .string ⟨#[]⟩] 38))) := kept_alloc (kept_refl w) _
  have HY : Hid (∀ (u : World) (a0 a1 a2 a3 a4 a5 a6 : Value), Kept w u → Kept w (set7 u w.heap.size a0 a1 a2 a3 a4 a5 a6)) := fun u a0 a1 a2 a3 a4 a5 a6 h => kept_set7 h (Nat.le_refl _) _ _ _ _ _ _ _
  have HWd := hid hWd
  have gstats : (x.toList == [115, 116, 97, 116, 115]) = false := by rw [txt_eq, hx0]; decide
  have gversion : (x.toList == [118, 101, 114, 115, 105, 111, 110]) = true := by rw [txt_eq, hx0]; decide
  clear hx0
  clear hWd
  go_enter Try.func16, Try.ntmps16
  go_wp2_with fail
  generalize w.alloc (.cells #[.int .i64 0, .slice none 0 0, .int .u32 0, .int .i64 0, .string ⟨#[]⟩, .bool false, .string ⟨#[]⟩] 38) = wa at *
  generalize w.heap.size = X at *
  refine (HWd.out _).mono ?_
  rintro e w1 ⟨A, cap, rfl, hcl, hk1⟩
  have HCl := hid hcl
  have HA1 := hid (at_kept HA.out hk1)
  have HK1 := hid (kept_trans HK.out hk1)
  clear hcl hk1
  go_wp2_with fail
  refine (Bad_fmt _).mono ?_
  rintro e w2 ⟨rfl, hk2⟩
  have AX := hid (at_alloc (at_kept HA1.out hk2) (.cells #[.int .i64 8, .slice none 0 0, .int .u32 0, .int .i64 0, .string ⟨#[]⟩, .bool false, .string rFmt] 38))
  have AY := hid (at_new w2 #[.int .i64 8, .slice none 0 0, .int .u32 0, .int .i64 0, .string ⟨#[]⟩, .bool false, .string rFmt] 38)
  have KV := hid (kept_alloc (kept_trans HK1.out hk2) (.cells #[.int .i64 8, .slice none 0 0, .int .u32 0, .int .i64 0, .string ⟨#[]⟩, .bool false, .string rFmt] 38))
  have k0 := HCl.out _ (kept_alloc hk2 (.cells #[.int .i64 8, .slice none 0 0, .int .u32 0, .int .i64 0, .string ⟨#[]⟩, .bool false, .string rFmt] 38))
  have KU := hid (kept_alloc hk2 (.cells #[.int .i64 8, .slice none 0 0, .int .u32 0, .int .i64 0, .string ⟨#[]⟩, .bool false, .string rFmt] 38))
  clear hk2 HA HK HA1
  obtain ⟨y0, y1, y2, y3, y4, y5, y6, -⟩ := at_cells7 AY.out
  obtain ⟨c0, c1, c2, c3, c4, c5, c6, fr⟩ := at_cells7 AX.out
  go_wp2_with fail
  refine bodyPost_ret (res2 rfl _ rfl rfl (at_set7 AX.out _ _ _ _ _ _ _)) rfl ?_
  subst hc
  exact ⟨_, rfl, keys_nil _, HY.out _ _ _ _ _ _ _ _ KV.out⟩
set_option maxHeartbeats 1600000 in
set_option maxRecDepth 100000 in
theorem rp_version_n (s : ByteArray) (x y : ByteArray) (n : Nat) (c : Cm) (hc : c = bad rFmt) (hx0 : x = ⟨#[118, 101, 114, 115, 105, 111, 110]⟩) (b : Bool) (hy : (y.toList == [110, 111, 114, 101, 112, 108, 121]) = b) (hn : 1 < n ∧ n ≤ 6000) (w : World)
    (hWd : ∀ w, Calls Try.prog 21 #[.string s] w fun e w' => ∃ A cap, e = .returned (.slice (some ⟨A, 0, none⟩) n cap) ∧ (∀ u, Kept w' u → u.cell? ⟨A, 0, none⟩ = some (.string x) ∧ u.cell? ⟨A, n - 1, none⟩ = some (.string y)) ∧ Kept w w') :
    Calls Try.prog 16 #[.string s] w fun e w' => ∃ kv, e = .returned (.tuple #[.agg #[.int .i64 c.kind, kv, .int .u32 c.flags, .int .i64 c.exp, .string ⟨#[]⟩, .bool c.quiet, .string c.reply], .int .i64 (-1)]) ∧ Keys w' kv c.keys ∧ Kept w w' := by
  have hz := zero26
  have HA : Hid (At (w.alloc (.cells #[.int .i64 0, .slice none 0 0, .int .u32 0, .int .i64 0, .string ⟨#[]⟩, .bool false, .string ⟨#[]⟩] 38)) w.heap.size #[.int .i64 0, .slice none 0 0, .int .u32 0, .int .i64 0, .string ⟨#[]⟩, .bool false, .string ⟨#[]⟩] 38) := at_new _ _ _
  have HK : Hid (Kept w (w.alloc (.cells #[.int .i64 0, .slice none 0 0, .int .u32 0, .int .i64 0, .string ⟨#[]⟩, .bool false, .string ⟨#[]⟩] 38))) := kept_alloc (kept_refl w) _
  have HY : Hid (∀ (u : World) (a0 a1 a2 a3 a4 a5 a6 : Value), Kept w u → Kept w (set7 u w.heap.size a0 a1 a2 a3 a4 a5 a6)) := fun u a0 a1 a2 a3 a4 a5 a6 h => kept_set7 h (Nat.le_refl _) _ _ _ _ _ _ _
  have HWd := hid hWd
  have gstats : (x.toList == [115, 116, 97, 116, 115]) = false := by rw [txt_eq, hx0]; decide
  have gversion : (x.toList == [118, 101, 114, 115, 105, 111, 110]) = true := by rw [txt_eq, hx0]; decide
  clear hx0
  have n1 : (1 : Int) < (n : Int) := by omega
  have hn6 : (n : Int) ≤ 6000 := by omega
  clear hn
  clear hWd
  go_enter Try.func16, Try.ntmps16
  go_wp2_with fail
  generalize w.alloc (.cells #[.int .i64 0, .slice none 0 0, .int .u32 0, .int .i64 0, .string ⟨#[]⟩, .bool false, .string ⟨#[]⟩] 38) = wa at *
  generalize w.heap.size = X at *
  refine (HWd.out _).mono ?_
  rintro e w1 ⟨A, cap, rfl, hcl, hk1⟩
  have HCl := hid hcl
  have HA1 := hid (at_kept HA.out hk1)
  have HK1 := hid (kept_trans HK.out hk1)
  clear hcl hk1
  go_wp2_with fail
  refine (Bad_fmt _).mono ?_
  rintro e w2 ⟨rfl, hk2⟩
  have AX := hid (at_alloc (at_kept HA1.out hk2) (.cells #[.int .i64 8, .slice none 0 0, .int .u32 0, .int .i64 0, .string ⟨#[]⟩, .bool false, .string rFmt] 38))
  have AY := hid (at_new w2 #[.int .i64 8, .slice none 0 0, .int .u32 0, .int .i64 0, .string ⟨#[]⟩, .bool false, .string rFmt] 38)
  have KV := hid (kept_alloc (kept_trans HK1.out hk2) (.cells #[.int .i64 8, .slice none 0 0, .int .u32 0, .int .i64 0, .string ⟨#[]⟩, .bool false, .string rFmt] 38))
  obtain ⟨k0, k1⟩ := HCl.out _ (kept_alloc hk2 (.cells #[.int .i64 8, .slice none 0 0, .int .u32 0, .int .i64 0, .string ⟨#[]⟩, .bool false, .string rFmt] 38))
  have KU := hid (kept_alloc hk2 (.cells #[.int .i64 8, .slice none 0 0, .int .u32 0, .int .i64 0, .string ⟨#[]⟩, .bool false, .string rFmt] 38))
  clear hk2 HA HK HA1
  obtain ⟨y0, y1, y2, y3, y4, y5, y6, -⟩ := at_cells7 AY.out
  obtain ⟨c0, c1, c2, c3, c4, c5, c6, fr⟩ := at_cells7 AX.out
  go_wp2_with fail
  refine bodyPost_ret (res2 rfl _ rfl rfl (at_set7 AX.out _ _ _ _ _ _ _)) rfl ?_
  exact bad_end2 hc AX.out HY.out KV.out
set_option maxHeartbeats 1600000 in
set_option maxRecDepth 100000 in
theorem rp_quit_1 (s : ByteArray) (x : ByteArray) (c : Cm) (hc : c = ⟨7, [], 0, 0, false, mt⟩) (hx0 : x = ⟨#[113, 117, 105, 116]⟩) (w : World)
    (hWd : ∀ w, Calls Try.prog 21 #[.string s] w fun e w' => ∃ A cap, e = .returned (.slice (some ⟨A, 0, none⟩) 1 cap) ∧ (∀ u, Kept w' u → u.cell? ⟨A, 0, none⟩ = some (.string x)) ∧ Kept w w') :
    Calls Try.prog 16 #[.string s] w fun e w' => ∃ kv, e = .returned (.tuple #[.agg #[.int .i64 c.kind, kv, .int .u32 c.flags, .int .i64 c.exp, .string ⟨#[]⟩, .bool c.quiet, .string c.reply], .int .i64 (-1)]) ∧ Keys w' kv c.keys ∧ Kept w w' := by
  have hz := zero26
  have HA : Hid (At (w.alloc (.cells #[.int .i64 0, .slice none 0 0, .int .u32 0, .int .i64 0, .string ⟨#[]⟩, .bool false, .string ⟨#[]⟩] 38)) w.heap.size #[.int .i64 0, .slice none 0 0, .int .u32 0, .int .i64 0, .string ⟨#[]⟩, .bool false, .string ⟨#[]⟩] 38) := at_new _ _ _
  have HK : Hid (Kept w (w.alloc (.cells #[.int .i64 0, .slice none 0 0, .int .u32 0, .int .i64 0, .string ⟨#[]⟩, .bool false, .string ⟨#[]⟩] 38))) := kept_alloc (kept_refl w) _
  have HY : Hid (∀ (u : World) (a0 a1 a2 a3 a4 a5 a6 : Value), Kept w u → Kept w (set7 u w.heap.size a0 a1 a2 a3 a4 a5 a6)) := fun u a0 a1 a2 a3 a4 a5 a6 h => kept_set7 h (Nat.le_refl _) _ _ _ _ _ _ _
  have HWd := hid hWd
  have gstats : (x.toList == [115, 116, 97, 116, 115]) = false := by rw [txt_eq, hx0]; decide
  have gversion : (x.toList == [118, 101, 114, 115, 105, 111, 110]) = false := by rw [txt_eq, hx0]; decide
  have gquit : (x.toList == [113, 117, 105, 116]) = true := by rw [txt_eq, hx0]; decide
  clear hx0
  clear hWd
  go_enter Try.func16, Try.ntmps16
  go_wp2_with fail
  generalize w.alloc (.cells #[.int .i64 0, .slice none 0 0, .int .u32 0, .int .i64 0, .string ⟨#[]⟩, .bool false, .string ⟨#[]⟩] 38) = wa at *
  generalize w.heap.size = X at *
  refine (HWd.out _).mono ?_
  rintro e w1 ⟨A, cap, rfl, hcl, hk1⟩
  have HCl := hid hcl
  have HA1 := hid (at_kept HA.out hk1)
  have HK1 := hid (kept_trans HK.out hk1)
  clear hcl hk1
  go_wp2_with fail
  refine (Bad_fmt _).mono ?_
  rintro e w2 ⟨rfl, hk2⟩
  have AX := hid (at_alloc (at_kept HA1.out hk2) (.cells #[.int .i64 8, .slice none 0 0, .int .u32 0, .int .i64 0, .string ⟨#[]⟩, .bool false, .string rFmt] 38))
  have AY := hid (at_new w2 #[.int .i64 8, .slice none 0 0, .int .u32 0, .int .i64 0, .string ⟨#[]⟩, .bool false, .string rFmt] 38)
  have KV := hid (kept_alloc (kept_trans HK1.out hk2) (.cells #[.int .i64 8, .slice none 0 0, .int .u32 0, .int .i64 0, .string ⟨#[]⟩, .bool false, .string rFmt] 38))
  have k0 := HCl.out _ (kept_alloc hk2 (.cells #[.int .i64 8, .slice none 0 0, .int .u32 0, .int .i64 0, .string ⟨#[]⟩, .bool false, .string rFmt] 38))
  have KU := hid (kept_alloc hk2 (.cells #[.int .i64 8, .slice none 0 0, .int .u32 0, .int .i64 0, .string ⟨#[]⟩, .bool false, .string rFmt] 38))
  clear hk2 HA HK HA1
  obtain ⟨y0, y1, y2, y3, y4, y5, y6, -⟩ := at_cells7 AY.out
  obtain ⟨c0, c1, c2, c3, c4, c5, c6, fr⟩ := at_cells7 AX.out
  go_wp2_with fail
  refine bodyPost_ret (res2 rfl _ rfl rfl (at_set7 AX.out _ _ _ _ _ _ _)) rfl ?_
  subst hc
  exact ⟨_, rfl, keys_nil _, HY.out _ _ _ _ _ _ _ _ KV.out⟩
set_option maxHeartbeats 1600000 in
set_option maxRecDepth 100000 in
theorem rp_quit_n (s : ByteArray) (x y : ByteArray) (n : Nat) (c : Cm) (hc : c = bad rFmt) (hx0 : x = ⟨#[113, 117, 105, 116]⟩) (b : Bool) (hy : (y.toList == [110, 111, 114, 101, 112, 108, 121]) = b) (hn : 1 < n ∧ n ≤ 6000) (w : World)
    (hWd : ∀ w, Calls Try.prog 21 #[.string s] w fun e w' => ∃ A cap, e = .returned (.slice (some ⟨A, 0, none⟩) n cap) ∧ (∀ u, Kept w' u → u.cell? ⟨A, 0, none⟩ = some (.string x) ∧ u.cell? ⟨A, n - 1, none⟩ = some (.string y)) ∧ Kept w w') :
    Calls Try.prog 16 #[.string s] w fun e w' => ∃ kv, e = .returned (.tuple #[.agg #[.int .i64 c.kind, kv, .int .u32 c.flags, .int .i64 c.exp, .string ⟨#[]⟩, .bool c.quiet, .string c.reply], .int .i64 (-1)]) ∧ Keys w' kv c.keys ∧ Kept w w' := by
  have hz := zero26
  have HA : Hid (At (w.alloc (.cells #[.int .i64 0, .slice none 0 0, .int .u32 0, .int .i64 0, .string ⟨#[]⟩, .bool false, .string ⟨#[]⟩] 38)) w.heap.size #[.int .i64 0, .slice none 0 0, .int .u32 0, .int .i64 0, .string ⟨#[]⟩, .bool false, .string ⟨#[]⟩] 38) := at_new _ _ _
  have HK : Hid (Kept w (w.alloc (.cells #[.int .i64 0, .slice none 0 0, .int .u32 0, .int .i64 0, .string ⟨#[]⟩, .bool false, .string ⟨#[]⟩] 38))) := kept_alloc (kept_refl w) _
  have HY : Hid (∀ (u : World) (a0 a1 a2 a3 a4 a5 a6 : Value), Kept w u → Kept w (set7 u w.heap.size a0 a1 a2 a3 a4 a5 a6)) := fun u a0 a1 a2 a3 a4 a5 a6 h => kept_set7 h (Nat.le_refl _) _ _ _ _ _ _ _
  have HWd := hid hWd
  have gstats : (x.toList == [115, 116, 97, 116, 115]) = false := by rw [txt_eq, hx0]; decide
  have gversion : (x.toList == [118, 101, 114, 115, 105, 111, 110]) = false := by rw [txt_eq, hx0]; decide
  have gquit : (x.toList == [113, 117, 105, 116]) = true := by rw [txt_eq, hx0]; decide
  clear hx0
  have n1 : (1 : Int) < (n : Int) := by omega
  have hn6 : (n : Int) ≤ 6000 := by omega
  clear hn
  clear hWd
  go_enter Try.func16, Try.ntmps16
  go_wp2_with fail
  generalize w.alloc (.cells #[.int .i64 0, .slice none 0 0, .int .u32 0, .int .i64 0, .string ⟨#[]⟩, .bool false, .string ⟨#[]⟩] 38) = wa at *
  generalize w.heap.size = X at *
  refine (HWd.out _).mono ?_
  rintro e w1 ⟨A, cap, rfl, hcl, hk1⟩
  have HCl := hid hcl
  have HA1 := hid (at_kept HA.out hk1)
  have HK1 := hid (kept_trans HK.out hk1)
  clear hcl hk1
  go_wp2_with fail
  refine (Bad_fmt _).mono ?_
  rintro e w2 ⟨rfl, hk2⟩
  have AX := hid (at_alloc (at_kept HA1.out hk2) (.cells #[.int .i64 8, .slice none 0 0, .int .u32 0, .int .i64 0, .string ⟨#[]⟩, .bool false, .string rFmt] 38))
  have AY := hid (at_new w2 #[.int .i64 8, .slice none 0 0, .int .u32 0, .int .i64 0, .string ⟨#[]⟩, .bool false, .string rFmt] 38)
  have KV := hid (kept_alloc (kept_trans HK1.out hk2) (.cells #[.int .i64 8, .slice none 0 0, .int .u32 0, .int .i64 0, .string ⟨#[]⟩, .bool false, .string rFmt] 38))
  obtain ⟨k0, k1⟩ := HCl.out _ (kept_alloc hk2 (.cells #[.int .i64 8, .slice none 0 0, .int .u32 0, .int .i64 0, .string ⟨#[]⟩, .bool false, .string rFmt] 38))
  have KU := hid (kept_alloc hk2 (.cells #[.int .i64 8, .slice none 0 0, .int .u32 0, .int .i64 0, .string ⟨#[]⟩, .bool false, .string rFmt] 38))
  clear hk2 HA HK HA1
  obtain ⟨y0, y1, y2, y3, y4, y5, y6, -⟩ := at_cells7 AY.out
  obtain ⟨c0, c1, c2, c3, c4, c5, c6, fr⟩ := at_cells7 AX.out
  go_wp2_with fail
  refine bodyPost_ret (res2 rfl _ rfl rfl (at_set7 AX.out _ _ _ _ _ _ _)) rfl ?_
  exact bad_end2 hc AX.out HY.out KV.out
set_option maxHeartbeats 1600000 in
set_option maxRecDepth 100000 in
theorem rp_other_1 (s : ByteArray) (x : ByteArray) (c : Cm) (hc : c = bad rErr) (nstats : x ≠ ⟨#[115, 116, 97, 116, 115]⟩) (nversion : x ≠ ⟨#[118, 101, 114, 115, 105, 111, 110]⟩) (nquit : x ≠ ⟨#[113, 117, 105, 116]⟩) (nget : x ≠ ⟨#[103, 101, 116]⟩) (ndelete : x ≠ ⟨#[100, 101, 108, 101, 116, 101]⟩) (ntouch : x ≠ ⟨#[116, 111, 117, 99, 104]⟩) (nset : x ≠ ⟨#[115, 101, 116]⟩) (w : World)
    (hWd : ∀ w, Calls Try.prog 21 #[.string s] w fun e w' => ∃ A cap, e = .returned (.slice (some ⟨A, 0, none⟩) 1 cap) ∧ (∀ u, Kept w' u → u.cell? ⟨A, 0, none⟩ = some (.string x)) ∧ Kept w w') :
    Calls Try.prog 16 #[.string s] w fun e w' => ∃ kv, e = .returned (.tuple #[.agg #[.int .i64 c.kind, kv, .int .u32 c.flags, .int .i64 c.exp, .string ⟨#[]⟩, .bool c.quiet, .string c.reply], .int .i64 (-1)]) ∧ Keys w' kv c.keys ∧ Kept w w' := by
  have hz := zero26
  have HA : Hid (At (w.alloc (.cells #[.int .i64 0, .slice none 0 0, .int .u32 0, .int .i64 0, .string ⟨#[]⟩, .bool false, .string ⟨#[]⟩] 38)) w.heap.size #[.int .i64 0, .slice none 0 0, .int .u32 0, .int .i64 0, .string ⟨#[]⟩, .bool false, .string ⟨#[]⟩] 38) := at_new _ _ _
  have HK : Hid (Kept w (w.alloc (.cells #[.int .i64 0, .slice none 0 0, .int .u32 0, .int .i64 0, .string ⟨#[]⟩, .bool false, .string ⟨#[]⟩] 38))) := kept_alloc (kept_refl w) _
  have HY : Hid (∀ (u : World) (a0 a1 a2 a3 a4 a5 a6 : Value), Kept w u → Kept w (set7 u w.heap.size a0 a1 a2 a3 a4 a5 a6)) := fun u a0 a1 a2 a3 a4 a5 a6 h => kept_set7 h (Nat.le_refl _) _ _ _ _ _ _ _
  have HWd := hid hWd
  have gstats : (x.toList == [115, 116, 97, 116, 115]) = false := by rw [txt_eq]; exact decide_eq_false nstats
  have gversion : (x.toList == [118, 101, 114, 115, 105, 111, 110]) = false := by rw [txt_eq]; exact decide_eq_false nversion
  have gquit : (x.toList == [113, 117, 105, 116]) = false := by rw [txt_eq]; exact decide_eq_false nquit
  have gget : (x.toList == [103, 101, 116]) = false := by rw [txt_eq]; exact decide_eq_false nget
  have gdelete : (x.toList == [100, 101, 108, 101, 116, 101]) = false := by rw [txt_eq]; exact decide_eq_false ndelete
  have gtouch : (x.toList == [116, 111, 117, 99, 104]) = false := by rw [txt_eq]; exact decide_eq_false ntouch
  have gset : (x.toList == [115, 101, 116]) = false := by rw [txt_eq]; exact decide_eq_false nset
  clear nstats nversion nquit nget ndelete ntouch nset
  clear hWd
  go_enter Try.func16, Try.ntmps16
  go_wp2_with fail
  generalize w.alloc (.cells #[.int .i64 0, .slice none 0 0, .int .u32 0, .int .i64 0, .string ⟨#[]⟩, .bool false, .string ⟨#[]⟩] 38) = wa at *
  generalize w.heap.size = X at *
  refine (HWd.out _).mono ?_
  rintro e w1 ⟨A, cap, rfl, hcl, hk1⟩
  have HCl := hid hcl
  have HA1 := hid (at_kept HA.out hk1)
  have HK1 := hid (kept_trans HK.out hk1)
  clear hcl hk1
  go_wp2_with fail
  refine (Bad_fmt _).mono ?_
  rintro e w2 ⟨rfl, hk2⟩
  have AX := hid (at_alloc (at_kept HA1.out hk2) (.cells #[.int .i64 8, .slice none 0 0, .int .u32 0, .int .i64 0, .string ⟨#[]⟩, .bool false, .string rFmt] 38))
  have AY := hid (at_new w2 #[.int .i64 8, .slice none 0 0, .int .u32 0, .int .i64 0, .string ⟨#[]⟩, .bool false, .string rFmt] 38)
  have KV := hid (kept_alloc (kept_trans HK1.out hk2) (.cells #[.int .i64 8, .slice none 0 0, .int .u32 0, .int .i64 0, .string ⟨#[]⟩, .bool false, .string rFmt] 38))
  have k0 := HCl.out _ (kept_alloc hk2 (.cells #[.int .i64 8, .slice none 0 0, .int .u32 0, .int .i64 0, .string ⟨#[]⟩, .bool false, .string rFmt] 38))
  have KU := hid (kept_alloc hk2 (.cells #[.int .i64 8, .slice none 0 0, .int .u32 0, .int .i64 0, .string ⟨#[]⟩, .bool false, .string rFmt] 38))
  clear hk2 HA HK HA1
  obtain ⟨y0, y1, y2, y3, y4, y5, y6, -⟩ := at_cells7 AY.out
  obtain ⟨c0, c1, c2, c3, c4, c5, c6, fr⟩ := at_cells7 AX.out
  go_wp2_with fail
  refine (Bad_err _).mono ?_
  rintro e w3 ⟨rfl, hk3⟩
  have AX3 := hid (at_kept AX.out hk3)
  have KV3 := hid (kept_trans KV.out hk3)
  clear hk3 c0 c1 c2 c3 c4 c5 c6 fr
  obtain ⟨c0, c1, c2, c3, c4, c5, c6, fr⟩ := at_cells7 AX3.out
  go_wp2_with fail
  refine bodyPost_ret (res2 rfl _ rfl rfl (at_set7 AX3.out _ _ _ _ _ _ _)) rfl ?_
  exact bad_end2 hc AX3.out HY.out KV3.out
set_option maxHeartbeats 1600000 in
set_option maxRecDepth 100000 in
theorem rp_other_n (s : ByteArray) (x y : ByteArray) (n : Nat) (c : Cm) (hc : c = bad rErr) (nstats : x ≠ ⟨#[115, 116, 97, 116, 115]⟩) (nversion : x ≠ ⟨#[118, 101, 114, 115, 105, 111, 110]⟩) (nquit : x ≠ ⟨#[113, 117, 105, 116]⟩) (nget : x ≠ ⟨#[103, 101, 116]⟩) (ndelete : x ≠ ⟨#[100, 101, 108, 101, 116, 101]⟩) (ntouch : x ≠ ⟨#[116, 111, 117, 99, 104]⟩) (nset : x ≠ ⟨#[115, 101, 116]⟩) (b : Bool) (hy : (y.toList == [110, 111, 114, 101, 112, 108, 121]) = b) (hn : 1 < n ∧ n ≤ 6000) (w : World)
    (hWd : ∀ w, Calls Try.prog 21 #[.string s] w fun e w' => ∃ A cap, e = .returned (.slice (some ⟨A, 0, none⟩) n cap) ∧ (∀ u, Kept w' u → u.cell? ⟨A, 0, none⟩ = some (.string x) ∧ u.cell? ⟨A, n - 1, none⟩ = some (.string y)) ∧ Kept w w') :
    Calls Try.prog 16 #[.string s] w fun e w' => ∃ kv, e = .returned (.tuple #[.agg #[.int .i64 c.kind, kv, .int .u32 c.flags, .int .i64 c.exp, .string ⟨#[]⟩, .bool c.quiet, .string c.reply], .int .i64 (-1)]) ∧ Keys w' kv c.keys ∧ Kept w w' := by
  have hz := zero26
  have HA : Hid (At (w.alloc (.cells #[.int .i64 0, .slice none 0 0, .int .u32 0, .int .i64 0, .string ⟨#[]⟩, .bool false, .string ⟨#[]⟩] 38)) w.heap.size #[.int .i64 0, .slice none 0 0, .int .u32 0, .int .i64 0, .string ⟨#[]⟩, .bool false, .string ⟨#[]⟩] 38) := at_new _ _ _
  have HK : Hid (Kept w (w.alloc (.cells #[.int .i64 0, .slice none 0 0, .int .u32 0, .int .i64 0, .string ⟨#[]⟩, .bool false, .string ⟨#[]⟩] 38))) := kept_alloc (kept_refl w) _
  have HY : Hid (∀ (u : World) (a0 a1 a2 a3 a4 a5 a6 : Value), Kept w u → Kept w (set7 u w.heap.size a0 a1 a2 a3 a4 a5 a6)) := fun u a0 a1 a2 a3 a4 a5 a6 h => kept_set7 h (Nat.le_refl _) _ _ _ _ _ _ _
  have HWd := hid hWd
  have gstats : (x.toList == [115, 116, 97, 116, 115]) = false := by rw [txt_eq]; exact decide_eq_false nstats
  have gversion : (x.toList == [118, 101, 114, 115, 105, 111, 110]) = false := by rw [txt_eq]; exact decide_eq_false nversion
  have gquit : (x.toList == [113, 117, 105, 116]) = false := by rw [txt_eq]; exact decide_eq_false nquit
  have gget : (x.toList == [103, 101, 116]) = false := by rw [txt_eq]; exact decide_eq_false nget
  have gdelete : (x.toList == [100, 101, 108, 101, 116, 101]) = false := by rw [txt_eq]; exact decide_eq_false ndelete
  have gtouch : (x.toList == [116, 111, 117, 99, 104]) = false := by rw [txt_eq]; exact decide_eq_false ntouch
  have gset : (x.toList == [115, 101, 116]) = false := by rw [txt_eq]; exact decide_eq_false nset
  clear nstats nversion nquit nget ndelete ntouch nset
  have n1 : (1 : Int) < (n : Int) := by omega
  have hn6 : (n : Int) ≤ 6000 := by omega
  clear hn
  clear hWd
  go_enter Try.func16, Try.ntmps16
  go_wp2_with fail
  generalize w.alloc (.cells #[.int .i64 0, .slice none 0 0, .int .u32 0, .int .i64 0, .string ⟨#[]⟩, .bool false, .string ⟨#[]⟩] 38) = wa at *
  generalize w.heap.size = X at *
  refine (HWd.out _).mono ?_
  rintro e w1 ⟨A, cap, rfl, hcl, hk1⟩
  have HCl := hid hcl
  have HA1 := hid (at_kept HA.out hk1)
  have HK1 := hid (kept_trans HK.out hk1)
  clear hcl hk1
  go_wp2_with fail
  refine (Bad_fmt _).mono ?_
  rintro e w2 ⟨rfl, hk2⟩
  have AX := hid (at_alloc (at_kept HA1.out hk2) (.cells #[.int .i64 8, .slice none 0 0, .int .u32 0, .int .i64 0, .string ⟨#[]⟩, .bool false, .string rFmt] 38))
  have AY := hid (at_new w2 #[.int .i64 8, .slice none 0 0, .int .u32 0, .int .i64 0, .string ⟨#[]⟩, .bool false, .string rFmt] 38)
  have KV := hid (kept_alloc (kept_trans HK1.out hk2) (.cells #[.int .i64 8, .slice none 0 0, .int .u32 0, .int .i64 0, .string ⟨#[]⟩, .bool false, .string rFmt] 38))
  obtain ⟨k0, k1⟩ := HCl.out _ (kept_alloc hk2 (.cells #[.int .i64 8, .slice none 0 0, .int .u32 0, .int .i64 0, .string ⟨#[]⟩, .bool false, .string rFmt] 38))
  have KU := hid (kept_alloc hk2 (.cells #[.int .i64 8, .slice none 0 0, .int .u32 0, .int .i64 0, .string ⟨#[]⟩, .bool false, .string rFmt] 38))
  clear hk2 HA HK HA1
  obtain ⟨y0, y1, y2, y3, y4, y5, y6, -⟩ := at_cells7 AY.out
  obtain ⟨c0, c1, c2, c3, c4, c5, c6, fr⟩ := at_cells7 AX.out
  go_wp2_with fail
  refine (Bad_err _).mono ?_
  rintro e w3 ⟨rfl, hk3⟩
  have AX3 := hid (at_kept AX.out hk3)
  have KV3 := hid (kept_trans KV.out hk3)
  clear hk3 c0 c1 c2 c3 c4 c5 c6 fr
  obtain ⟨c0, c1, c2, c3, c4, c5, c6, fr⟩ := at_cells7 AX3.out
  go_wp2_with fail
  refine bodyPost_ret (res2 rfl _ rfl rfl (at_set7 AX3.out _ _ _ _ _ _ _)) rfl ?_
  exact bad_end2 hc AX3.out HY.out KV3.out
set_option maxHeartbeats 1600000 in
set_option maxRecDepth 100000 in
theorem rp_get_1 (s : ByteArray) (x : ByteArray) (c : Cm) (hc : c = bad rFmt) (hx0 : x = ⟨#[103, 101, 116]⟩) (w : World)
    (hWd : ∀ w, Calls Try.prog 21 #[.string s] w fun e w' => ∃ A cap, e = .returned (.slice (some ⟨A, 0, none⟩) 1 cap) ∧ (∀ u, Kept w' u → u.cell? ⟨A, 0, none⟩ = some (.string x)) ∧ Kept w w') :
    Calls Try.prog 16 #[.string s] w fun e w' => ∃ kv, e = .returned (.tuple #[.agg #[.int .i64 c.kind, kv, .int .u32 c.flags, .int .i64 c.exp, .string ⟨#[]⟩, .bool c.quiet, .string c.reply], .int .i64 (-1)]) ∧ Keys w' kv c.keys ∧ Kept w w' := by
  have hz := zero26
  have HA : Hid (At (w.alloc (.cells #[.int .i64 0, .slice none 0 0, .int .u32 0, .int .i64 0, .string ⟨#[]⟩, .bool false, .string ⟨#[]⟩] 38)) w.heap.size #[.int .i64 0, .slice none 0 0, .int .u32 0, .int .i64 0, .string ⟨#[]⟩, .bool false, .string ⟨#[]⟩] 38) := at_new _ _ _
  have HK : Hid (Kept w (w.alloc (.cells #[.int .i64 0, .slice none 0 0, .int .u32 0, .int .i64 0, .string ⟨#[]⟩, .bool false, .string ⟨#[]⟩] 38))) := kept_alloc (kept_refl w) _
  have HY : Hid (∀ (u : World) (a0 a1 a2 a3 a4 a5 a6 : Value), Kept w u → Kept w (set7 u w.heap.size a0 a1 a2 a3 a4 a5 a6)) := fun u a0 a1 a2 a3 a4 a5 a6 h => kept_set7 h (Nat.le_refl _) _ _ _ _ _ _ _
  have HWd := hid hWd
  have gstats : (x.toList == [115, 116, 97, 116, 115]) = false := by rw [txt_eq, hx0]; decide
  have gversion : (x.toList == [118, 101, 114, 115, 105, 111, 110]) = false := by rw [txt_eq, hx0]; decide
  have gquit : (x.toList == [113, 117, 105, 116]) = false := by rw [txt_eq, hx0]; decide
  have gget : (x.toList == [103, 101, 116]) = true := by rw [txt_eq, hx0]; decide
  clear hx0
  clear hWd
  go_enter Try.func16, Try.ntmps16
  go_wp2_with fail
  generalize w.alloc (.cells #[.int .i64 0, .slice none 0 0, .int .u32 0, .int .i64 0, .string ⟨#[]⟩, .bool false, .string ⟨#[]⟩] 38) = wa at *
  generalize w.heap.size = X at *
  refine (HWd.out _).mono ?_
  rintro e w1 ⟨A, cap, rfl, hcl, hk1⟩
  have HCl := hid hcl
  have HA1 := hid (at_kept HA.out hk1)
  have HK1 := hid (kept_trans HK.out hk1)
  clear hcl hk1
  go_wp2_with fail
  refine (Bad_fmt _).mono ?_
  rintro e w2 ⟨rfl, hk2⟩
  have AX := hid (at_alloc (at_kept HA1.out hk2) (.cells #[.int .i64 8, .slice none 0 0, .int .u32 0, .int .i64 0, .string ⟨#[]⟩, .bool false, .string rFmt] 38))
  have AY := hid (at_new w2 #[.int .i64 8, .slice none 0 0, .int .u32 0, .int .i64 0, .string ⟨#[]⟩, .bool false, .string rFmt] 38)
  have KV := hid (kept_alloc (kept_trans HK1.out hk2) (.cells #[.int .i64 8, .slice none 0 0, .int .u32 0, .int .i64 0, .string ⟨#[]⟩, .bool false, .string rFmt] 38))
  have k0 := HCl.out _ (kept_alloc hk2 (.cells #[.int .i64 8, .slice none 0 0, .int .u32 0, .int .i64 0, .string ⟨#[]⟩, .bool false, .string rFmt] 38))
  have KU := hid (kept_alloc hk2 (.cells #[.int .i64 8, .slice none 0 0, .int .u32 0, .int .i64 0, .string ⟨#[]⟩, .bool false, .string rFmt] 38))
  clear hk2 HA HK HA1
  obtain ⟨y0, y1, y2, y3, y4, y5, y6, -⟩ := at_cells7 AY.out
  obtain ⟨c0, c1, c2, c3, c4, c5, c6, fr⟩ := at_cells7 AX.out
  go_wp2_with fail
  refine bodyPost_ret (res2 rfl _ rfl rfl (at_set7 AX.out _ _ _ _ _ _ _)) rfl ?_
  exact bad_end2 hc AX.out HY.out KV.out
set_option maxHeartbeats 1600000 in
set_option maxRecDepth 100000 in
theorem rp_get_n (s : ByteArray) (x y : ByteArray) (n : Nat) (c : Cm) (hc : c = bad rFmt) (hx0 : x = ⟨#[103, 101, 116]⟩) (b : Bool) (hy : (y.toList == [110, 111, 114, 101, 112, 108, 121]) = b) (hn : 17 < n ∧ n ≤ 6000) (w : World)
    (hWd : ∀ w, Calls Try.prog 21 #[.string s] w fun e w' => ∃ A cap, e = .returned (.slice (some ⟨A, 0, none⟩) n cap) ∧ (∀ u, Kept w' u → u.cell? ⟨A, 0, none⟩ = some (.string x) ∧ u.cell? ⟨A, n - 1, none⟩ = some (.string y)) ∧ Kept w w') :
    Calls Try.prog 16 #[.string s] w fun e w' => ∃ kv, e = .returned (.tuple #[.agg #[.int .i64 c.kind, kv, .int .u32 c.flags, .int .i64 c.exp, .string ⟨#[]⟩, .bool c.quiet, .string c.reply], .int .i64 (-1)]) ∧ Keys w' kv c.keys ∧ Kept w w' := by
  have hz := zero26
  have HA : Hid (At (w.alloc (.cells #[.int .i64 0, .slice none 0 0, .int .u32 0, .int .i64 0, .string ⟨#[]⟩, .bool false, .string ⟨#[]⟩] 38)) w.heap.size #[.int .i64 0, .slice none 0 0, .int .u32 0, .int .i64 0, .string ⟨#[]⟩, .bool false, .string ⟨#[]⟩] 38) := at_new _ _ _
  have HK : Hid (Kept w (w.alloc (.cells #[.int .i64 0, .slice none 0 0, .int .u32 0, .int .i64 0, .string ⟨#[]⟩, .bool false, .string ⟨#[]⟩] 38))) := kept_alloc (kept_refl w) _
  have HY : Hid (∀ (u : World) (a0 a1 a2 a3 a4 a5 a6 : Value), Kept w u → Kept w (set7 u w.heap.size a0 a1 a2 a3 a4 a5 a6)) := fun u a0 a1 a2 a3 a4 a5 a6 h => kept_set7 h (Nat.le_refl _) _ _ _ _ _ _ _
  have HWd := hid hWd
  have gstats : (x.toList == [115, 116, 97, 116, 115]) = false := by rw [txt_eq, hx0]; decide
  have gversion : (x.toList == [118, 101, 114, 115, 105, 111, 110]) = false := by rw [txt_eq, hx0]; decide
  have gquit : (x.toList == [113, 117, 105, 116]) = false := by rw [txt_eq, hx0]; decide
  have gget : (x.toList == [103, 101, 116]) = true := by rw [txt_eq, hx0]; decide
  clear hx0
  have n1 : (1 : Int) < (n : Int) := by omega
  have n2 : ¬ (n : Int) < 2 := by omega
  have n17 : (17 : Int) < (n : Int) := by omega
  have hn6 : (n : Int) ≤ 6000 := by omega
  clear hn
  clear hWd
  go_enter Try.func16, Try.ntmps16
  go_wp2_with fail
  generalize w.alloc (.cells #[.int .i64 0, .slice none 0 0, .int .u32 0, .int .i64 0, .string ⟨#[]⟩, .bool false, .string ⟨#[]⟩] 38) = wa at *
  generalize w.heap.size = X at *
  refine (HWd.out _).mono ?_
  rintro e w1 ⟨A, cap, rfl, hcl, hk1⟩
  have HCl := hid hcl
  have HA1 := hid (at_kept HA.out hk1)
  have HK1 := hid (kept_trans HK.out hk1)
  clear hcl hk1
  go_wp2_with fail
  refine (Bad_fmt _).mono ?_
  rintro e w2 ⟨rfl, hk2⟩
  have AX := hid (at_alloc (at_kept HA1.out hk2) (.cells #[.int .i64 8, .slice none 0 0, .int .u32 0, .int .i64 0, .string ⟨#[]⟩, .bool false, .string rFmt] 38))
  have AY := hid (at_new w2 #[.int .i64 8, .slice none 0 0, .int .u32 0, .int .i64 0, .string ⟨#[]⟩, .bool false, .string rFmt] 38)
  have KV := hid (kept_alloc (kept_trans HK1.out hk2) (.cells #[.int .i64 8, .slice none 0 0, .int .u32 0, .int .i64 0, .string ⟨#[]⟩, .bool false, .string rFmt] 38))
  obtain ⟨k0, k1⟩ := HCl.out _ (kept_alloc hk2 (.cells #[.int .i64 8, .slice none 0 0, .int .u32 0, .int .i64 0, .string ⟨#[]⟩, .bool false, .string rFmt] 38))
  have KU := hid (kept_alloc hk2 (.cells #[.int .i64 8, .slice none 0 0, .int .u32 0, .int .i64 0, .string ⟨#[]⟩, .bool false, .string rFmt] 38))
  clear hk2 HA HK HA1
  obtain ⟨y0, y1, y2, y3, y4, y5, y6, -⟩ := at_cells7 AY.out
  obtain ⟨c0, c1, c2, c3, c4, c5, c6, fr⟩ := at_cells7 AX.out
  go_wp2_with fail
  refine bodyPost_ret (res2 rfl _ rfl rfl (at_set7 AX.out _ _ _ _ _ _ _)) rfl ?_
  exact bad_end2 hc AX.out HY.out KV.out
end Go.Proofs.Ytjlojkcdglocbaa
