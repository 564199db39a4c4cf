/- The contract of the reference's Parse, of deletes and touches. It turns nothing that was there. -/
import Derived.Test.YtjlojkcdglocbaaRefP1
namespace Go.Proofs.Ytjlojkcdglocbaa
open Go.ChangeShapes Go.WideShapes Go.ChangeAt Go.RowKit
set_option linter.unusedVariables false
set_option linter.unusedSimpArgs false

set_option maxHeartbeats 1600000 in
set_option maxRecDepth 100000 in
theorem rp_delete_1 (s : ByteArray) (x : ByteArray) (c : Cm) (hc : c = bad rFmt) (hx0 : x = ⟨#[100, 101, 108, 101, 116, 101]⟩) (w : World)
    (hWd : ∀ w, Calls Try.prog 21 #[.string s] w fun e w' => ∃ A cap, e = .returned (.slice (some ⟨A, 0, none⟩) 1 cap) ∧ (∀ u, Kept w' u → u.cell? ⟨A, 0, none⟩ = some (.string x)) ∧ Kept w w') :
    Calls Try.prog 16 #[.string s] w fun e w' => ∃ kv, e = .returned (.tuple #[.agg #[.int .i64 c.kind, kv, .int .u32 c.flags, .int .i64 c.exp, .string ⟨#[]⟩, .bool c.quiet, .string c.reply], .int .i64 (-1)]) ∧ Keys w' kv c.keys ∧ Kept w w' := by
  have hz := zero26
  have HA : Hid (At (w.alloc (.cells #[.int .i64 0, .slice none 0 0, .int .u32 0, .int .i64 0, .string ⟨#[]⟩, .bool false, .string ⟨#[]⟩] 38)) w.heap.size #[.int .i64 0, .slice none 0 0, .int .u32 0, .int .i64 0, .string ⟨#[]⟩, .bool false, .string ⟨#[]⟩] 38) := at_new _ _ _
  have HK : Hid (Kept w (w.alloc (.cells #[.int .i64 0, .slice none 0 0, .int .u32 0, .int .i64 0, .string ⟨#[]⟩, .bool false, .string ⟨#[]⟩] 38))) := kept_alloc (kept_refl w) _
  have HY : Hid (∀ (u : World) (a0 a1 a2 a3 a4 a5 a6 : Value), Kept w u → Kept w (set7 u w.heap.size a0 a1 a2 a3 a4 a5 a6)) := fun u a0 a1 a2 a3 a4 a5 a6 h => kept_set7 h (Nat.le_refl _) _ _ _ _ _ _ _
  have HWd := hid hWd
  have gstats : (x.toList == [115, 116, 97, 116, 115]) = false := by rw [txt_eq, hx0]; decide
  have gversion : (x.toList == [118, 101, 114, 115, 105, 111, 110]) = false := by rw [txt_eq, hx0]; decide
  have gquit : (x.toList == [113, 117, 105, 116]) = false := by rw [txt_eq, hx0]; decide
  have gget : (x.toList == [103, 101, 116]) = false := by rw [txt_eq, hx0]; decide
  have gdelete : (x.toList == [100, 101, 108, 101, 116, 101]) = true := by rw [txt_eq, hx0]; decide
  clear hx0
  clear hWd
  go_enter Try.func16, Try.ntmps16
  go_wp2_with fail
  generalize w.alloc (.cells #[.int .i64 0, .slice none 0 0, .int .u32 0, .int .i64 0, .string ⟨#[]⟩, .bool false, .string ⟨#[]⟩] 38) = wa at *
  generalize w.heap.size = X at *
  refine (HWd.out _).mono ?_
  rintro e w1 ⟨A, cap, rfl, hcl, hk1⟩
  have HCl := hid hcl
  have HA1 := hid (at_kept HA.out hk1)
  have HK1 := hid (kept_trans HK.out hk1)
  clear hcl hk1
  go_wp2_with fail
  refine (Bad_fmt _).mono ?_
  rintro e w2 ⟨rfl, hk2⟩
  have AX := hid (at_alloc (at_kept HA1.out hk2) (.cells #[.int .i64 8, .slice none 0 0, .int .u32 0, .int .i64 0, .string ⟨#[]⟩, .bool false, .string rFmt] 38))
  have AY := hid (at_new w2 #[.int .i64 8, .slice none 0 0, .int .u32 0, .int .i64 0, .string ⟨#[]⟩, .bool false, .string rFmt] 38)
  have KV := hid (kept_alloc (kept_trans HK1.out hk2) (.cells #[.int .i64 8, .slice none 0 0, .int .u32 0, .int .i64 0, .string ⟨#[]⟩, .bool false, .string rFmt] 38))
  have k0 := HCl.out _ (kept_alloc hk2 (.cells #[.int .i64 8, .slice none 0 0, .int .u32 0, .int .i64 0, .string ⟨#[]⟩, .bool false, .string rFmt] 38))
  have KU := hid (kept_alloc hk2 (.cells #[.int .i64 8, .slice none 0 0, .int .u32 0, .int .i64 0, .string ⟨#[]⟩, .bool false, .string rFmt] 38))
  clear hk2 HA HK HA1
  obtain ⟨y0, y1, y2, y3, y4, y5, y6, -⟩ := at_cells7 AY.out
  obtain ⟨c0, c1, c2, c3, c4, c5, c6, fr⟩ := at_cells7 AX.out
  go_wp2_with fail
  refine bodyPost_ret (res2 rfl _ rfl rfl (at_set7 AX.out _ _ _ _ _ _ _)) rfl ?_
  exact bad_end2 hc AX.out HY.out KV.out
set_option maxHeartbeats 1600000 in
set_option maxRecDepth 100000 in
theorem rp_delete_2k (s : ByteArray) (x y : ByteArray) (c : Cm) (hc : c = bad rFmt) (hx0 : x = ⟨#[100, 101, 108, 101, 116, 101]⟩) (b : Bool) (hy : (y.toList == [110, 111, 114, 101, 112, 108, 121]) = b) (hM : ∀ w, Calls Try.prog 22 #[.string y] w fun e w' => e = .returned (.bool false) ∧ w' = w) (w : World)
    (hWd : ∀ w, Calls Try.prog 21 #[.string s] w fun e w' => ∃ A cap, e = .returned (.slice (some ⟨A, 0, none⟩) 2 cap) ∧ (∀ u, Kept w' u → u.cell? ⟨A, 0, none⟩ = some (.string x) ∧ u.cell? ⟨A, 1, none⟩ = some (.string y)) ∧ Kept w w') :
    Calls Try.prog 16 #[.string s] w fun e w' => ∃ kv, e = .returned (.tuple #[.agg #[.int .i64 c.kind, kv, .int .u32 c.flags, .int .i64 c.exp, .string ⟨#[]⟩, .bool c.quiet, .string c.reply], .int .i64 (-1)]) ∧ Keys w' kv c.keys ∧ Kept w w' := by
  have hz := zero26
  have HA : Hid (At (w.alloc (.cells #[.int .i64 0, .slice none 0 0, .int .u32 0, .int .i64 0, .string ⟨#[]⟩, .bool false, .string ⟨#[]⟩] 38)) w.heap.size #[.int .i64 0, .slice none 0 0, .int .u32 0, .int .i64 0, .string ⟨#[]⟩, .bool false, .string ⟨#[]⟩] 38) := at_new _ _ _
  have HK : Hid (Kept w (w.alloc (.cells #[.int .i64 0, .slice none 0 0, .int .u32 0, .int .i64 0, .string ⟨#[]⟩, .bool false, .string ⟨#[]⟩] 38))) := kept_alloc (kept_refl w) _
  have HY : Hid (∀ (u : World) (a0 a1 a2 a3 a4 a5 a6 : Value), Kept w u → Kept w (set7 u w.heap.size a0 a1 a2 a3 a4 a5 a6)) := fun u a0 a1 a2 a3 a4 a5 a6 h => kept_set7 h (Nat.le_refl _) _ _ _ _ _ _ _
  have HWd := hid hWd
  have gstats : (x.toList == [115, 116, 97, 116, 115]) = false := by rw [txt_eq, hx0]; decide
  have gversion : (x.toList == [118, 101, 114, 115, 105, 111, 110]) = false := by rw [txt_eq, hx0]; decide
  have gquit : (x.toList == [113, 117, 105, 116]) = false := by rw [txt_eq, hx0]; decide
  have gget : (x.toList == [103, 101, 116]) = false := by rw [txt_eq, hx0]; decide
  have gdelete : (x.toList == [100, 101, 108, 101, 116, 101]) = true := by rw [txt_eq, hx0]; decide
  clear hx0
  have HM := hid hM
  clear hM
  clear hWd
  go_enter Try.func16, Try.ntmps16
  go_wp2_with fail
  generalize w.alloc (.cells #[.int .i64 0, .slice none 0 0, .int .u32 0, .int .i64 0, .string ⟨#[]⟩, .bool false, .string ⟨#[]⟩] 38) = wa at *
  generalize w.heap.size = X at *
  refine (HWd.out _).mono ?_
  rintro e w1 ⟨A, cap, rfl, hcl, hk1⟩
  have HCl := hid hcl
  have HA1 := hid (at_kept HA.out hk1)
  have HK1 := hid (kept_trans HK.out hk1)
  clear hcl hk1
  go_wp2_with fail
  refine (Bad_fmt _).mono ?_
  rintro e w2 ⟨rfl, hk2⟩
  have AX := hid (at_alloc (at_kept HA1.out hk2) (.cells #[.int .i64 8, .slice none 0 0, .int .u32 0, .int .i64 0, .string ⟨#[]⟩, .bool false, .string rFmt] 38))
  have AY := hid (at_new w2 #[.int .i64 8, .slice none 0 0, .int .u32 0, .int .i64 0, .string ⟨#[]⟩, .bool false, .string rFmt] 38)
  have KV := hid (kept_alloc (kept_trans HK1.out hk2) (.cells #[.int .i64 8, .slice none 0 0, .int .u32 0, .int .i64 0, .string ⟨#[]⟩, .bool false, .string rFmt] 38))
  obtain ⟨k0, k1⟩ := HCl.out _ (kept_alloc hk2 (.cells #[.int .i64 8, .slice none 0 0, .int .u32 0, .int .i64 0, .string ⟨#[]⟩, .bool false, .string rFmt] 38))
  have KU := hid (kept_alloc hk2 (.cells #[.int .i64 8, .slice none 0 0, .int .u32 0, .int .i64 0, .string ⟨#[]⟩, .bool false, .string rFmt] 38))
  clear hk2 HA HK HA1
  obtain ⟨y0, y1, y2, y3, y4, y5, y6, -⟩ := at_cells7 AY.out
  obtain ⟨c0, c1, c2, c3, c4, c5, c6, fr⟩ := at_cells7 AX.out
  go_wp2_with fail
  refine (HM.out _).mono ?_
  rintro e u1 ⟨rfl, hu⟩
  rw [hu]; clear hu u1
  go_wp2_with fail
  refine bodyPost_ret (res2 rfl _ rfl rfl (at_set7 AX.out _ _ _ _ _ _ _)) rfl ?_
  exact bad_end2 hc AX.out HY.out KV.out
set_option maxHeartbeats 1600000 in
set_option maxRecDepth 100000 in
theorem rp_delete_2g (s : ByteArray) (x y : ByteArray) (c : Cm) (hc : c = ⟨3, [y], 0, 0, false, mt⟩) (hx0 : x = ⟨#[100, 101, 108, 101, 116, 101]⟩) (b : Bool) (hy : (y.toList == [110, 111, 114, 101, 112, 108, 121]) = b) (hM : ∀ w, Calls Try.prog 22 #[.string y] w fun e w' => e = .returned (.bool true) ∧ w' = w) (w : World)
    (hWd : ∀ w, Calls Try.prog 21 #[.string s] w fun e w' => ∃ A cap, e = .returned (.slice (some ⟨A, 0, none⟩) 2 cap) ∧ (∀ u, Kept w' u → u.cell? ⟨A, 0, none⟩ = some (.string x) ∧ u.cell? ⟨A, 1, none⟩ = some (.string y)) ∧ Kept w w') :
    Calls Try.prog 16 #[.string s] w fun e w' => ∃ kv, e = .returned (.tuple #[.agg #[.int .i64 c.kind, kv, .int .u32 c.flags, .int .i64 c.exp, .string ⟨#[]⟩, .bool c.quiet, .string c.reply], .int .i64 (-1)]) ∧ Keys w' kv c.keys ∧ Kept w w' := by
  have hz := zero26
  have HA : Hid (At (w.alloc (.cells #[.int .i64 0, .slice none 0 0, .int .u32 0, .int .i64 0, .string ⟨#[]⟩, .bool false, .string ⟨#[]⟩] 38)) w.heap.size #[.int .i64 0, .slice none 0 0, .int .u32 0, .int .i64 0, .string ⟨#[]⟩, .bool false, .string ⟨#[]⟩] 38) := at_new _ _ _
  have HK : Hid (Kept w (w.alloc (.cells #[.int .i64 0, .slice none 0 0, .int .u32 0, .int .i64 0, .string ⟨#[]⟩, .bool false, .string ⟨#[]⟩] 38))) := kept_alloc (kept_refl w) _
  have HY : Hid (∀ (u : World) (a0 a1 a2 a3 a4 a5 a6 : Value), Kept w u → Kept w (set7 u w.heap.size a0 a1 a2 a3 a4 a5 a6)) := fun u a0 a1 a2 a3 a4 a5 a6 h => kept_set7 h (Nat.le_refl _) _ _ _ _ _ _ _
  have HWd := hid hWd
  have gstats : (x.toList == [115, 116, 97, 116, 115]) = false := by rw [txt_eq, hx0]; decide
  have gversion : (x.toList == [118, 101, 114, 115, 105, 111, 110]) = false := by rw [txt_eq, hx0]; decide
  have gquit : (x.toList == [113, 117, 105, 116]) = false := by rw [txt_eq, hx0]; decide
  have gget : (x.toList == [103, 101, 116]) = false := by rw [txt_eq, hx0]; decide
  have gdelete : (x.toList == [100, 101, 108, 101, 116, 101]) = true := by rw [txt_eq, hx0]; decide
  clear hx0
  have HM := hid hM
  clear hM
  clear hWd
  go_enter Try.func16, Try.ntmps16
  go_wp2_with fail
  generalize w.alloc (.cells #[.int .i64 0, .slice none 0 0, .int .u32 0, .int .i64 0, .string ⟨#[]⟩, .bool false, .string ⟨#[]⟩] 38) = wa at *
  generalize w.heap.size = X at *
  refine (HWd.out _).mono ?_
  rintro e w1 ⟨A, cap, rfl, hcl, hk1⟩
  have HCl := hid hcl
  have HA1 := hid (at_kept HA.out hk1)
  have HK1 := hid (kept_trans HK.out hk1)
  clear hcl hk1
  go_wp2_with fail
  refine (Bad_fmt _).mono ?_
  rintro e w2 ⟨rfl, hk2⟩
  have AX := hid (at_alloc (at_kept HA1.out hk2) (.cells #[.int .i64 8, .slice none 0 0, .int .u32 0, .int .i64 0, .string ⟨#[]⟩, .bool false, .string rFmt] 38))
  have AY := hid (at_new w2 #[.int .i64 8, .slice none 0 0, .int .u32 0, .int .i64 0, .string ⟨#[]⟩, .bool false, .string rFmt] 38)
  have KV := hid (kept_alloc (kept_trans HK1.out hk2) (.cells #[.int .i64 8, .slice none 0 0, .int .u32 0, .int .i64 0, .string ⟨#[]⟩, .bool false, .string rFmt] 38))
  obtain ⟨k0, k1⟩ := HCl.out _ (kept_alloc hk2 (.cells #[.int .i64 8, .slice none 0 0, .int .u32 0, .int .i64 0, .string ⟨#[]⟩, .bool false, .string rFmt] 38))
  have KU := hid (kept_alloc hk2 (.cells #[.int .i64 8, .slice none 0 0, .int .u32 0, .int .i64 0, .string ⟨#[]⟩, .bool false, .string rFmt] 38))
  clear hk2 HA HK HA1
  obtain ⟨y0, y1, y2, y3, y4, y5, y6, -⟩ := at_cells7 AY.out
  obtain ⟨c0, c1, c2, c3, c4, c5, c6, fr⟩ := at_cells7 AX.out
  go_wp2_with fail
  refine (HM.out _).mono ?_
  rintro e u1 ⟨rfl, hu⟩
  rw [hu]; clear hu u1
  generalize w2.alloc (.cells #[.int .i64 8, .slice none 0 0, .int .u32 0, .int .i64 0, .string ⟨#[]⟩, .bool false, .string rFmt] 38) = v at *
  generalize w2.heap.size = Y at *
  have AX2 := hid (at_alloc AX.out (.cells #[.string y] 9))
  have KV2 := hid (kept_alloc KV.out (.cells #[.string y] 9))
  have KS := hid (keys_one v y 9)
  have NB : Hid (v.heap.size ≠ X) := by have := at_lt AX.out; show _ ≠ _; omega
  clear c0 c1 c2 c3 c4 c5 c6 fr
  obtain ⟨c0, c1, c2, c3, c4, c5, c6, fr⟩ := at_cells7 AX2.out
  go_wp2_with fail
  refine bodyPost_ret (res2 rfl _ rfl rfl (at_set7 AX2.out _ _ _ _ _ _ _)) rfl ?_
  subst hc
  exact ⟨_, rfl, keys_set7 KS.out (fun A' n' cap' h => by cases h; exact NB.out) _ _ _ _ _ _ _, HY.out _ _ _ _ _ _ _ _ KV2.out⟩
set_option maxHeartbeats 1600000 in
set_option maxRecDepth 100000 in
theorem rp_delete_3k (s : ByteArray) (x x1 y : ByteArray) (c : Cm) (hc : c = bad rFmt) (hx0 : x = ⟨#[100, 101, 108, 101, 116, 101]⟩) (hy : (y.toList == [110, 111, 114, 101, 112, 108, 121]) = true) (hM : ∀ w, Calls Try.prog 22 #[.string x1] w fun e w' => e = .returned (.bool false) ∧ w' = w) (w : World)
    (hWd : ∀ w, Calls Try.prog 21 #[.string s] w fun e w' => ∃ A cap, e = .returned (.slice (some ⟨A, 0, none⟩) 3 cap) ∧ (∀ u, Kept w' u → u.cell? ⟨A, 0, none⟩ = some (.string x) ∧ u.cell? ⟨A, 1, none⟩ = some (.string x1) ∧ u.cell? ⟨A, 2, none⟩ = some (.string y)) ∧ Kept w w') :
    Calls Try.prog 16 #[.string s] w fun e w' => ∃ kv, e = .returned (.tuple #[.agg #[.int .i64 c.kind, kv, .int .u32 c.flags, .int .i64 c.exp, .string ⟨#[]⟩, .bool c.quiet, .string c.reply], .int .i64 (-1)]) ∧ Keys w' kv c.keys ∧ Kept w w' := by
  have hz := zero26
  have HA : Hid (At (w.alloc (.cells #[.int .i64 0, .slice none 0 0, .int .u32 0, .int .i64 0, .string ⟨#[]⟩, .bool false, .string ⟨#[]⟩] 38)) w.heap.size #[.int .i64 0, .slice none 0 0, .int .u32 0, .int .i64 0, .string ⟨#[]⟩, .bool false, .string ⟨#[]⟩] 38) := at_new _ _ _
  have HK : Hid (Kept w (w.alloc (.cells #[.int .i64 0, .slice none 0 0, .int .u32 0, .int .i64 0, .string ⟨#[]⟩, .bool false, .string ⟨#[]⟩] 38))) := kept_alloc (kept_refl w) _
  have HY : Hid (∀ (u : World) (a0 a1 a2 a3 a4 a5 a6 : Value), Kept w u → Kept w (set7 u w.heap.size a0 a1 a2 a3 a4 a5 a6)) := fun u a0 a1 a2 a3 a4 a5 a6 h => kept_set7 h (Nat.le_refl _) _ _ _ _ _ _ _
  have HWd := hid hWd
  have gstats : (x.toList == [115, 116, 97, 116, 115]) = false := by rw [txt_eq, hx0]; decide
  have gversion : (x.toList == [118, 101, 114, 115, 105, 111, 110]) = false := by rw [txt_eq, hx0]; decide
  have gquit : (x.toList == [113, 117, 105, 116]) = false := by rw [txt_eq, hx0]; decide
  have gget : (x.toList == [103, 101, 116]) = false := by rw [txt_eq, hx0]; decide
  have gdelete : (x.toList == [100, 101, 108, 101, 116, 101]) = true := by rw [txt_eq, hx0]; decide
  clear hx0
  have HM := hid hM
  clear hM
  clear hWd
  go_enter Try.func16, Try.ntmps16
  go_wp2_with fail
  generalize w.alloc (.cells #[.int .i64 0, .slice none 0 0, .int .u32 0, .int .i64 0, .string ⟨#[]⟩, .bool false, .string ⟨#[]⟩] 38) = wa at *
  generalize w.heap.size = X at *
  refine (HWd.out _).mono ?_
  rintro e w1 ⟨A, cap, rfl, hcl, hk1⟩
  have HCl := hid hcl
  have HA1 := hid (at_kept HA.out hk1)
  have HK1 := hid (kept_trans HK.out hk1)
  clear hcl hk1
  go_wp2_with fail
  refine (Bad_fmt _).mono ?_
  rintro e w2 ⟨rfl, hk2⟩
  have AX := hid (at_alloc (at_kept HA1.out hk2) (.cells #[.int .i64 8, .slice none 0 0, .int .u32 0, .int .i64 0, .string ⟨#[]⟩, .bool false, .string rFmt] 38))
  have AY := hid (at_new w2 #[.int .i64 8, .slice none 0 0, .int .u32 0, .int .i64 0, .string ⟨#[]⟩, .bool false, .string rFmt] 38)
  have KV := hid (kept_alloc (kept_trans HK1.out hk2) (.cells #[.int .i64 8, .slice none 0 0, .int .u32 0, .int .i64 0, .string ⟨#[]⟩, .bool false, .string rFmt] 38))
  obtain ⟨k0, k1, k2⟩ := HCl.out _ (kept_alloc hk2 (.cells #[.int .i64 8, .slice none 0 0, .int .u32 0, .int .i64 0, .string ⟨#[]⟩, .bool false, .string rFmt] 38))
  have KU := hid (kept_alloc hk2 (.cells #[.int .i64 8, .slice none 0 0, .int .u32 0, .int .i64 0, .string ⟨#[]⟩, .bool false, .string rFmt] 38))
  clear hk2 HA HK HA1
  obtain ⟨y0, y1, y2, y3, y4, y5, y6, -⟩ := at_cells7 AY.out
  obtain ⟨c0, c1, c2, c3, c4, c5, c6, fr⟩ := at_cells7 AX.out
  go_wp2_with fail
  refine (HM.out _).mono ?_
  rintro e u1 ⟨rfl, hu⟩
  rw [hu]; clear hu u1
  go_wp2_with fail
  refine bodyPost_ret (res2 rfl _ rfl rfl (at_set7 AX.out _ _ _ _ _ _ _)) rfl ?_
  exact bad_end2 hc AX.out HY.out KV.out
set_option maxHeartbeats 1600000 in
set_option maxRecDepth 100000 in
theorem rp_delete_3g (s : ByteArray) (x x1 y : ByteArray) (c : Cm) (hc : c = ⟨3, [x1], 0, 0, true, mt⟩) (hx0 : x = ⟨#[100, 101, 108, 101, 116, 101]⟩) (hy : (y.toList == [110, 111, 114, 101, 112, 108, 121]) = true) (hM : ∀ w, Calls Try.prog 22 #[.string x1] w fun e w' => e = .returned (.bool true) ∧ w' = w) (w : World)
    (hWd : ∀ w, Calls Try.prog 21 #[.string s] w fun e w' => ∃ A cap, e = .returned (.slice (some ⟨A, 0, none⟩) 3 cap) ∧ (∀ u, Kept w' u → u.cell? ⟨A, 0, none⟩ = some (.string x) ∧ u.cell? ⟨A, 1, none⟩ = some (.string x1) ∧ u.cell? ⟨A, 2, none⟩ = some (.string y)) ∧ Kept w w') :
    Calls Try.prog 16 #[.string s] w fun e w' => ∃ kv, e = .returned (.tuple #[.agg #[.int .i64 c.kind, kv, .int .u32 c.flags, .int .i64 c.exp, .string ⟨#[]⟩, .bool c.quiet, .string c.reply], .int .i64 (-1)]) ∧ Keys w' kv c.keys ∧ Kept w w' := by
  have hz := zero26
  have HA : Hid (At (w.alloc (.cells #[.int .i64 0, .slice none 0 0, .int .u32 0, .int .i64 0, .string ⟨#[]⟩, .bool false, .string ⟨#[]⟩] 38)) w.heap.size #[.int .i64 0, .slice none 0 0, .int .u32 0, .int .i64 0, .string ⟨#[]⟩, .bool false, .string ⟨#[]⟩] 38) := at_new _ _ _
  have HK : Hid (Kept w (w.alloc (.cells #[.int .i64 0, .slice none 0 0, .int .u32 0, .int .i64 0, .string ⟨#[]⟩, .bool false, .string ⟨#[]⟩] 38))) := kept_alloc (kept_refl w) _
  have HY : Hid (∀ (u : World) (a0 a1 a2 a3 a4 a5 a6 : Value), Kept w u → Kept w (set7 u w.heap.size a0 a1 a2 a3 a4 a5 a6)) := fun u a0 a1 a2 a3 a4 a5 a6 h => kept_set7 h (Nat.le_refl _) _ _ _ _ _ _ _
  have HWd := hid hWd
  have gstats : (x.toList == [115, 116, 97, 116, 115]) = false := by rw [txt_eq, hx0]; decide
  have gversion : (x.toList == [118, 101, 114, 115, 105, 111, 110]) = false := by rw [txt_eq, hx0]; decide
  have gquit : (x.toList == [113, 117, 105, 116]) = false := by rw [txt_eq, hx0]; decide
  have gget : (x.toList == [103, 101, 116]) = false := by rw [txt_eq, hx0]; decide
  have gdelete : (x.toList == [100, 101, 108, 101, 116, 101]) = true := by rw [txt_eq, hx0]; decide
  clear hx0
  have HM := hid hM
  clear hM
  clear hWd
  go_enter Try.func16, Try.ntmps16
  go_wp2_with fail
  generalize w.alloc (.cells #[.int .i64 0, .slice none 0 0, .int .u32 0, .int .i64 0, .string ⟨#[]⟩, .bool false, .string ⟨#[]⟩] 38) = wa at *
  generalize w.heap.size = X at *
  refine (HWd.out _).mono ?_
  rintro e w1 ⟨A, cap, rfl, hcl, hk1⟩
  have HCl := hid hcl
  have HA1 := hid (at_kept HA.out hk1)
  have HK1 := hid (kept_trans HK.out hk1)
  clear hcl hk1
  go_wp2_with fail
  refine (Bad_fmt _).mono ?_
  rintro e w2 ⟨rfl, hk2⟩
  have AX := hid (at_alloc (at_kept HA1.out hk2) (.cells #[.int .i64 8, .slice none 0 0, .int .u32 0, .int .i64 0, .string ⟨#[]⟩, .bool false, .string rFmt] 38))
  have AY := hid (at_new w2 #[.int .i64 8, .slice none 0 0, .int .u32 0, .int .i64 0, .string ⟨#[]⟩, .bool false, .string rFmt] 38)
  have KV := hid (kept_alloc (kept_trans HK1.out hk2) (.cells #[.int .i64 8, .slice none 0 0, .int .u32 0, .int .i64 0, .string ⟨#[]⟩, .bool false, .string rFmt] 38))
  obtain ⟨k0, k1, k2⟩ := HCl.out _ (kept_alloc hk2 (.cells #[.int .i64 8, .slice none 0 0, .int .u32 0, .int .i64 0, .string ⟨#[]⟩, .bool false, .string rFmt] 38))
  have KU := hid (kept_alloc hk2 (.cells #[.int .i64 8, .slice none 0 0, .int .u32 0, .int .i64 0, .string ⟨#[]⟩, .bool false, .string rFmt] 38))
  clear hk2 HA HK HA1
  obtain ⟨y0, y1, y2, y3, y4, y5, y6, -⟩ := at_cells7 AY.out
  obtain ⟨c0, c1, c2, c3, c4, c5, c6, fr⟩ := at_cells7 AX.out
  go_wp2_with fail
  refine (HM.out _).mono ?_
  rintro e u1 ⟨rfl, hu⟩
  rw [hu]; clear hu u1
  generalize w2.alloc (.cells #[.int .i64 8, .slice none 0 0, .int .u32 0, .int .i64 0, .string ⟨#[]⟩, .bool false, .string rFmt] 38) = v at *
  generalize w2.heap.size = Y at *
  have AX2 := hid (at_alloc AX.out (.cells #[.string x1] 9))
  have KV2 := hid (kept_alloc KV.out (.cells #[.string x1] 9))
  have KS := hid (keys_one v x1 9)
  have NB : Hid (v.heap.size ≠ X) := by have := at_lt AX.out; show _ ≠ _; omega
  clear c0 c1 c2 c3 c4 c5 c6 fr
  obtain ⟨c0, c1, c2, c3, c4, c5, c6, fr⟩ := at_cells7 AX2.out
  go_wp2_with fail
  refine bodyPost_ret (res2 rfl _ rfl rfl (at_set7 AX2.out _ _ _ _ _ _ _)) rfl ?_
  subst hc
  exact ⟨_, rfl, keys_set7 KS.out (fun A' n' cap' h => by cases h; exact NB.out) _ _ _ _ _ _ _, HY.out _ _ _ _ _ _ _ _ KV2.out⟩
set_option maxHeartbeats 1600000 in
set_option maxRecDepth 100000 in
theorem rp_delete_3l (s : ByteArray) (x x1 y : ByteArray) (c : Cm) (hc : c = bad rFmt) (hx0 : x = ⟨#[100, 101, 108, 101, 116, 101]⟩) (hy : (y.toList == [110, 111, 114, 101, 112, 108, 121]) = false) (w : World)
    (hWd : ∀ w, Calls Try.prog 21 #[.string s] w fun e w' => ∃ A cap, e = .returned (.slice (some ⟨A, 0, none⟩) 3 cap) ∧ (∀ u, Kept w' u → u.cell? ⟨A, 0, none⟩ = some (.string x) ∧ u.cell? ⟨A, 1, none⟩ = some (.string x1) ∧ u.cell? ⟨A, 2, none⟩ = some (.string y)) ∧ Kept w w') :
    Calls Try.prog 16 #[.string s] w fun e w' => ∃ kv, e = .returned (.tuple #[.agg #[.int .i64 c.kind, kv, .int .u32 c.flags, .int .i64 c.exp, .string ⟨#[]⟩, .bool c.quiet, .string c.reply], .int .i64 (-1)]) ∧ Keys w' kv c.keys ∧ Kept w w' := by
  have hz := zero26
  have HA : Hid (At (w.alloc (.cells #[.int .i64 0, .slice none 0 0, .int .u32 0, .int .i64 0, .string ⟨#[]⟩, .bool false, .string ⟨#[]⟩] 38)) w.heap.size #[.int .i64 0, .slice none 0 0, .int .u32 0, .int .i64 0, .string ⟨#[]⟩, .bool false, .string ⟨#[]⟩] 38) := at_new _ _ _
  have HK : Hid (Kept w (w.alloc (.cells #[.int .i64 0, .slice none 0 0, .int .u32 0, .int .i64 0, .string ⟨#[]⟩, .bool false, .string ⟨#[]⟩] 38))) := kept_alloc (kept_refl w) _
  have HY : Hid (∀ (u : World) (a0 a1 a2 a3 a4 a5 a6 : Value), Kept w u → Kept w (set7 u w.heap.size a0 a1 a2 a3 a4 a5 a6)) := fun u a0 a1 a2 a3 a4 a5 a6 h => kept_set7 h (Nat.le_refl _) _ _ _ _ _ _ _
  have HWd := hid hWd
  have gstats : (x.toList == [115, 116, 97, 116, 115]) = false := by rw [txt_eq, hx0]; decide
  have gversion : (x.toList == [118, 101, 114, 115, 105, 111, 110]) = false := by rw [txt_eq, hx0]; decide
  have gquit : (x.toList == [113, 117, 105, 116]) = false := by rw [txt_eq, hx0]; decide
  have gget : (x.toList == [103, 101, 116]) = false := by rw [txt_eq, hx0]; decide
  have gdelete : (x.toList == [100, 101, 108, 101, 116, 101]) = true := by rw [txt_eq, hx0]; decide
  clear hx0
  clear hWd
  go_enter Try.func16, Try.ntmps16
  go_wp2_with fail
  generalize w.alloc (.cells #[.int .i64 0, .slice none 0 0, .int .u32 0, .int .i64 0, .string ⟨#[]⟩, .bool false, .string ⟨#[]⟩] 38) = wa at *
  generalize w.heap.size = X at *
  refine (HWd.out _).mono ?_
  rintro e w1 ⟨A, cap, rfl, hcl, hk1⟩
  have HCl := hid hcl
  have HA1 := hid (at_kept HA.out hk1)
  have HK1 := hid (kept_trans HK.out hk1)
  clear hcl hk1
  go_wp2_with fail
  refine (Bad_fmt _).mono ?_
  rintro e w2 ⟨rfl, hk2⟩
  have AX := hid (at_alloc (at_kept HA1.out hk2) (.cells #[.int .i64 8, .slice none 0 0, .int .u32 0, .int .i64 0, .string ⟨#[]⟩, .bool false, .string rFmt] 38))
  have AY := hid (at_new w2 #[.int .i64 8, .slice none 0 0, .int .u32 0, .int .i64 0, .string ⟨#[]⟩, .bool false, .string rFmt] 38)
  have KV := hid (kept_alloc (kept_trans HK1.out hk2) (.cells #[.int .i64 8, .slice none 0 0, .int .u32 0, .int .i64 0, .string ⟨#[]⟩, .bool false, .string rFmt] 38))
  obtain ⟨k0, k1, k2⟩ := HCl.out _ (kept_alloc hk2 (.cells #[.int .i64 8, .slice none 0 0, .int .u32 0, .int .i64 0, .string ⟨#[]⟩, .bool false, .string rFmt] 38))
  have KU := hid (kept_alloc hk2 (.cells #[.int .i64 8, .slice none 0 0, .int .u32 0, .int .i64 0, .string ⟨#[]⟩, .bool false, .string rFmt] 38))
  clear hk2 HA HK HA1
  obtain ⟨y0, y1, y2, y3, y4, y5, y6, -⟩ := at_cells7 AY.out
  obtain ⟨c0, c1, c2, c3, c4, c5, c6, fr⟩ := at_cells7 AX.out
  go_wp2_with fail
  refine bodyPost_ret (res2 rfl _ rfl rfl (at_set7 AX.out _ _ _ _ _ _ _)) rfl ?_
  exact bad_end2 hc AX.out HY.out KV.out
set_option maxHeartbeats 1600000 in
set_option maxRecDepth 100000 in
theorem rp_delete_n (s : ByteArray) (x y : ByteArray) (n : Nat) (c : Cm) (hc : c = bad rFmt) (hx0 : x = ⟨#[100, 101, 108, 101, 116, 101]⟩) (b : Bool) (hy : (y.toList == [110, 111, 114, 101, 112, 108, 121]) = b) (hn : 3 < n ∧ n ≤ 6000) (w : World)
    (hWd : ∀ w, Calls Try.prog 21 #[.string s] w fun e w' => ∃ A cap, e = .returned (.slice (some ⟨A, 0, none⟩) n cap) ∧ (∀ u, Kept w' u → u.cell? ⟨A, 0, none⟩ = some (.string x) ∧ u.cell? ⟨A, n - 1, none⟩ = some (.string y)) ∧ Kept w w') :
    Calls Try.prog 16 #[.string s] w fun e w' => ∃ kv, e = .returned (.tuple #[.agg #[.int .i64 c.kind, kv, .int .u32 c.flags, .int .i64 c.exp, .string ⟨#[]⟩, .bool c.quiet, .string c.reply], .int .i64 (-1)]) ∧ Keys w' kv c.keys ∧ Kept w w' := by
  have hz := zero26
  have HA : Hid (At (w.alloc (.cells #[.int .i64 0, .slice none 0 0, .int .u32 0, .int .i64 0, .string ⟨#[]⟩, .bool false, .string ⟨#[]⟩] 38)) w.heap.size #[.int .i64 0, .slice none 0 0, .int .u32 0, .int .i64 0, .string ⟨#[]⟩, .bool false, .string ⟨#[]⟩] 38) := at_new _ _ _
  have HK : Hid (Kept w (w.alloc (.cells #[.int .i64 0, .slice none 0 0, .int .u32 0, .int .i64 0, .string ⟨#[]⟩, .bool false, .string ⟨#[]⟩] 38))) := kept_alloc (kept_refl w) _
  have HY : Hid (∀ (u : World) (a0 a1 a2 a3 a4 a5 a6 : Value), Kept w u → Kept w (set7 u w.heap.size a0 a1 a2 a3 a4 a5 a6)) := fun u a0 a1 a2 a3 a4 a5 a6 h => kept_set7 h (Nat.le_refl _) _ _ _ _ _ _ _
  have HWd := hid hWd
  have gstats : (x.toList == [115, 116, 97, 116, 115]) = false := by rw [txt_eq, hx0]; decide
  have gversion : (x.toList == [118, 101, 114, 115, 105, 111, 110]) = false := by rw [txt_eq, hx0]; decide
  have gquit : (x.toList == [113, 117, 105, 116]) = false := by rw [txt_eq, hx0]; decide
  have gget : (x.toList == [103, 101, 116]) = false := by rw [txt_eq, hx0]; decide
  have gdelete : (x.toList == [100, 101, 108, 101, 116, 101]) = true := by rw [txt_eq, hx0]; decide
  clear hx0
  have n1 : (1 : Int) < (n : Int) := by omega
  have ne2 : ((n : Int) != 2) = true := by simp; omega
  have nq2 : ((n : Int) == 2) = false := by simp; omega
  have ne3 : ((n : Int) != 3) = true := by simp; omega
  have nq3 : ((n : Int) == 3) = false := by simp; omega
  have hn6 : (n : Int) ≤ 6000 := by omega
  clear hn
  clear hWd
  go_enter Try.func16, Try.ntmps16
  go_wp2_with fail
  generalize w.alloc (.cells #[.int .i64 0, .slice none 0 0, .int .u32 0, .int .i64 0, .string ⟨#[]⟩, .bool false, .string ⟨#[]⟩] 38) = wa at *
  generalize w.heap.size = X at *
  refine (HWd.out _).mono ?_
  rintro e w1 ⟨A, cap, rfl, hcl, hk1⟩
  have HCl := hid hcl
  have HA1 := hid (at_kept HA.out hk1)
  have HK1 := hid (kept_trans HK.out hk1)
  clear hcl hk1
  go_wp2_with fail
  refine (Bad_fmt _).mono ?_
  rintro e w2 ⟨rfl, hk2⟩
  have AX := hid (at_alloc (at_kept HA1.out hk2) (.cells #[.int .i64 8, .slice none 0 0, .int .u32 0, .int .i64 0, .string ⟨#[]⟩, .bool false, .string rFmt] 38))
  have AY := hid (at_new w2 #[.int .i64 8, .slice none 0 0, .int .u32 0, .int .i64 0, .string ⟨#[]⟩, .bool false, .string rFmt] 38)
  have KV := hid (kept_alloc (kept_trans HK1.out hk2) (.cells #[.int .i64 8, .slice none 0 0, .int .u32 0, .int .i64 0, .string ⟨#[]⟩, .bool false, .string rFmt] 38))
  obtain ⟨k0, k1⟩ := HCl.out _ (kept_alloc hk2 (.cells #[.int .i64 8, .slice none 0 0, .int .u32 0, .int .i64 0, .string ⟨#[]⟩, .bool false, .string rFmt] 38))
  have KU := hid (kept_alloc hk2 (.cells #[.int .i64 8, .slice none 0 0, .int .u32 0, .int .i64 0, .string ⟨#[]⟩, .bool false, .string rFmt] 38))
  clear hk2 HA HK HA1
  obtain ⟨y0, y1, y2, y3, y4, y5, y6, -⟩ := at_cells7 AY.out
  obtain ⟨c0, c1, c2, c3, c4, c5, c6, fr⟩ := at_cells7 AX.out
  go_wp2_with fail
  refine bodyPost_ret (res2 rfl _ rfl rfl (at_set7 AX.out _ _ _ _ _ _ _)) rfl ?_
  exact bad_end2 hc AX.out HY.out KV.out
set_option maxHeartbeats 1600000 in
set_option maxRecDepth 100000 in
theorem rp_touch_1 (s : ByteArray) (x : ByteArray) (c : Cm) (hc : c = bad rFmt) (hx0 : x = ⟨#[116, 111, 117, 99, 104]⟩) (w : World)
    (hWd : ∀ w, Calls Try.prog 21 #[.string s] w fun e w' => ∃ A cap, e = .returned (.slice (some ⟨A, 0, none⟩) 1 cap) ∧ (∀ u, Kept w' u → u.cell? ⟨A, 0, none⟩ = some (.string x)) ∧ Kept w w') :
    Calls Try.prog 16 #[.string s] w fun e w' => ∃ kv, e = .returned (.tuple #[.agg #[.int .i64 c.kind, kv, .int .u32 c.flags, .int .i64 c.exp, .string ⟨#[]⟩, .bool c.quiet, .string c.reply], .int .i64 (-1)]) ∧ Keys w' kv c.keys ∧ Kept w w' := by
  have hz := zero26
  have HA : Hid (At (w.alloc (.cells #[.int .i64 0, .slice none 0 0, .int .u32 0, .int .i64 0, .string ⟨#[]⟩, .bool false, .string ⟨#[]⟩] 38)) w.heap.size #[.int .i64 0, .slice none 0 0, .int .u32 0, .int .i64 0, .string ⟨#[]⟩, .bool false, .string ⟨#[]⟩] 38) := at_new _ _ _
  have HK : Hid (Kept w (w.alloc (.cells #[.int .i64 0, .slice none 0 0, .int .u32 0, .int .i64 0, .string ⟨#[]⟩, .bool false, .string ⟨#[]⟩] 38))) := kept_alloc (kept_refl w) _
  have HY : Hid (∀ (u : World) (a0 a1 a2 a3 a4 a5 a6 : Value), Kept w u → Kept w (set7 u w.heap.size a0 a1 a2 a3 a4 a5 a6)) := fun u a0 a1 a2 a3 a4 a5 a6 h => kept_set7 h (Nat.le_refl _) _ _ _ _ _ _ _
  have HWd := hid hWd
  have gstats : (x.toList == [115, 116, 97, 116, 115]) = false := by rw [txt_eq, hx0]; decide
  have gversion : (x.toList == [118, 101, 114, 115, 105, 111, 110]) = false := by rw [txt_eq, hx0]; decide
  have gquit : (x.toList == [113, 117, 105, 116]) = false := by rw [txt_eq, hx0]; decide
  have gget : (x.toList == [103, 101, 116]) = false := by rw [txt_eq, hx0]; decide
  have gdelete : (x.toList == [100, 101, 108, 101, 116, 101]) = false := by rw [txt_eq, hx0]; decide
  have gtouch : (x.toList == [116, 111, 117, 99, 104]) = true := by rw [txt_eq, hx0]; decide
  clear hx0
  clear hWd
  go_enter Try.func16, Try.ntmps16
  go_wp2_with fail
  generalize w.alloc (.cells #[.int .i64 0, .slice none 0 0, .int .u32 0, .int .i64 0, .string ⟨#[]⟩, .bool false, .string ⟨#[]⟩] 38) = wa at *
  generalize w.heap.size = X at *
  refine (HWd.out _).mono ?_
  rintro e w1 ⟨A, cap, rfl, hcl, hk1⟩
  have HCl := hid hcl
  have HA1 := hid (at_kept HA.out hk1)
  have HK1 := hid (kept_trans HK.out hk1)
  clear hcl hk1
  go_wp2_with fail
  refine (Bad_fmt _).mono ?_
  rintro e w2 ⟨rfl, hk2⟩
  have AX := hid (at_alloc (at_kept HA1.out hk2) (.cells #[.int .i64 8, .slice none 0 0, .int .u32 0, .int .i64 0, .string ⟨#[]⟩, .bool false, .string rFmt] 38))
  have AY := hid (at_new w2 #[.int .i64 8, .slice none 0 0, .int .u32 0, .int .i64 0, .string ⟨#[]⟩, .bool false, .string rFmt] 38)
  have KV := hid (kept_alloc (kept_trans HK1.out hk2) (.cells #[.int .i64 8, .slice none 0 0, .int .u32 0, .int .i64 0, .string ⟨#[]⟩, .bool false, .string rFmt] 38))
  have k0 := HCl.out _ (kept_alloc hk2 (.cells #[.int .i64 8, .slice none 0 0, .int .u32 0, .int .i64 0, .string ⟨#[]⟩, .bool false, .string rFmt] 38))
  have KU := hid (kept_alloc hk2 (.cells #[.int .i64 8, .slice none 0 0, .int .u32 0, .int .i64 0, .string ⟨#[]⟩, .bool false, .string rFmt] 38))
  clear hk2 HA HK HA1
  obtain ⟨y0, y1, y2, y3, y4, y5, y6, -⟩ := at_cells7 AY.out
  obtain ⟨c0, c1, c2, c3, c4, c5, c6, fr⟩ := at_cells7 AX.out
  go_wp2_with fail
  refine bodyPost_ret (res2 rfl _ rfl rfl (at_set7 AX.out _ _ _ _ _ _ _)) rfl ?_
  exact bad_end2 hc AX.out HY.out KV.out
set_option maxHeartbeats 1600000 in
set_option maxRecDepth 100000 in
theorem rp_touch_2 (s : ByteArray) (x y : ByteArray) (c : Cm) (hc : c = bad rFmt) (hx0 : x = ⟨#[116, 111, 117, 99, 104]⟩) (b : Bool) (hy : (y.toList == [110, 111, 114, 101, 112, 108, 121]) = b) (w : World)
    (hWd : ∀ w, Calls Try.prog 21 #[.string s] w fun e w' => ∃ A cap, e = .returned (.slice (some ⟨A, 0, none⟩) 2 cap) ∧ (∀ u, Kept w' u → u.cell? ⟨A, 0, none⟩ = some (.string x) ∧ u.cell? ⟨A, 1, none⟩ = some (.string y)) ∧ Kept w w') :
    Calls Try.prog 16 #[.string s] w fun e w' => ∃ kv, e = .returned (.tuple #[.agg #[.int .i64 c.kind, kv, .int .u32 c.flags, .int .i64 c.exp, .string ⟨#[]⟩, .bool c.quiet, .string c.reply], .int .i64 (-1)]) ∧ Keys w' kv c.keys ∧ Kept w w' := by
  have hz := zero26
  have HA : Hid (At (w.alloc (.cells #[.int .i64 0, .slice none 0 0, .int .u32 0, .int .i64 0, .string ⟨#[]⟩, .bool false, .string ⟨#[]⟩] 38)) w.heap.size #[.int .i64 0, .slice none 0 0, .int .u32 0, .int .i64 0, .string ⟨#[]⟩, .bool false, .string ⟨#[]⟩] 38) := at_new _ _ _
  have HK : Hid (Kept w (w.alloc (.cells #[.int .i64 0, .slice none 0 0, .int .u32 0, .int .i64 0, .string ⟨#[]⟩, .bool false, .string ⟨#[]⟩] 38))) := kept_alloc (kept_refl w) _
  have HY : Hid (∀ (u : World) (a0 a1 a2 a3 a4 a5 a6 : Value), Kept w u → Kept w (set7 u w.heap.size a0 a1 a2 a3 a4 a5 a6)) := fun u a0 a1 a2 a3 a4 a5 a6 h => kept_set7 h (Nat.le_refl _) _ _ _ _ _ _ _
  have HWd := hid hWd
  have gstats : (x.toList == [115, 116, 97, 116, 115]) = false := by rw [txt_eq, hx0]; decide
  have gversion : (x.toList == [118, 101, 114, 115, 105, 111, 110]) = false := by rw [txt_eq, hx0]; decide
  have gquit : (x.toList == [113, 117, 105, 116]) = false := by rw [txt_eq, hx0]; decide
  have gget : (x.toList == [103, 101, 116]) = false := by rw [txt_eq, hx0]; decide
  have gdelete : (x.toList == [100, 101, 108, 101, 116, 101]) = false := by rw [txt_eq, hx0]; decide
  have gtouch : (x.toList == [116, 111, 117, 99, 104]) = true := by rw [txt_eq, hx0]; decide
  clear hx0
  clear hWd
  go_enter Try.func16, Try.ntmps16
  go_wp2_with fail
  generalize w.alloc (.cells #[.int .i64 0, .slice none 0 0, .int .u32 0, .int .i64 0, .string ⟨#[]⟩, .bool false, .string ⟨#[]⟩] 38) = wa at *
  generalize w.heap.size = X at *
  refine (HWd.out _).mono ?_
  rintro e w1 ⟨A, cap, rfl, hcl, hk1⟩
  have HCl := hid hcl
  have HA1 := hid (at_kept HA.out hk1)
  have HK1 := hid (kept_trans HK.out hk1)
  clear hcl hk1
  go_wp2_with fail
  refine (Bad_fmt _).mono ?_
  rintro e w2 ⟨rfl, hk2⟩
  have AX := hid (at_alloc (at_kept HA1.out hk2) (.cells #[.int .i64 8, .slice none 0 0, .int .u32 0, .int .i64 0, .string ⟨#[]⟩, .bool false, .string rFmt] 38))
  have AY := hid (at_new w2 #[.int .i64 8, .slice none 0 0, .int .u32 0, .int .i64 0, .string ⟨#[]⟩, .bool false, .string rFmt] 38)
  have KV := hid (kept_alloc (kept_trans HK1.out hk2) (.cells #[.int .i64 8, .slice none 0 0, .int .u32 0, .int .i64 0, .string ⟨#[]⟩, .bool false, .string rFmt] 38))
  obtain ⟨k0, k1⟩ := HCl.out _ (kept_alloc hk2 (.cells #[.int .i64 8, .slice none 0 0, .int .u32 0, .int .i64 0, .string ⟨#[]⟩, .bool false, .string rFmt] 38))
  have KU := hid (kept_alloc hk2 (.cells #[.int .i64 8, .slice none 0 0, .int .u32 0, .int .i64 0, .string ⟨#[]⟩, .bool false, .string rFmt] 38))
  clear hk2 HA HK HA1
  obtain ⟨y0, y1, y2, y3, y4, y5, y6, -⟩ := at_cells7 AY.out
  obtain ⟨c0, c1, c2, c3, c4, c5, c6, fr⟩ := at_cells7 AX.out
  go_wp2_with fail
  refine bodyPost_ret (res2 rfl _ rfl rfl (at_set7 AX.out _ _ _ _ _ _ _)) rfl ?_
  exact bad_end2 hc AX.out HY.out KV.out
set_option maxHeartbeats 1600000 in
set_option maxRecDepth 100000 in
theorem rp_touch_3k (s : ByteArray) (x x1 y : ByteArray) (c : Cm) (hc : c = bad rFmt) (hx0 : x = ⟨#[116, 111, 117, 99, 104]⟩) (b : Bool) (hy : (y.toList == [110, 111, 114, 101, 112, 108, 121]) = b) (hM : ∀ w, Calls Try.prog 22 #[.string x1] w fun e w' => e = .returned (.bool false) ∧ w' = w) (w : World)
    (hWd : ∀ w, Calls Try.prog 21 #[.string s] w fun e w' => ∃ A cap, e = .returned (.slice (some ⟨A, 0, none⟩) 3 cap) ∧ (∀ u, Kept w' u → u.cell? ⟨A, 0, none⟩ = some (.string x) ∧ u.cell? ⟨A, 1, none⟩ = some (.string x1) ∧ u.cell? ⟨A, 2, none⟩ = some (.string y)) ∧ Kept w w') :
    Calls Try.prog 16 #[.string s] w fun e w' => ∃ kv, e = .returned (.tuple #[.agg #[.int .i64 c.kind, kv, .int .u32 c.flags, .int .i64 c.exp, .string ⟨#[]⟩, .bool c.quiet, .string c.reply], .int .i64 (-1)]) ∧ Keys w' kv c.keys ∧ Kept w w' := by
  have hz := zero26
  have HA : Hid (At (w.alloc (.cells #[.int .i64 0, .slice none 0 0, .int .u32 0, .int .i64 0, .string ⟨#[]⟩, .bool false, .string ⟨#[]⟩] 38)) w.heap.size #[.int .i64 0, .slice none 0 0, .int .u32 0, .int .i64 0, .string ⟨#[]⟩, .bool false, .string ⟨#[]⟩] 38) := at_new _ _ _
  have HK : Hid (Kept w (w.alloc (.cells #[.int .i64 0, .slice none 0 0, .int .u32 0, .int .i64 0, .string ⟨#[]⟩, .bool false, .string ⟨#[]⟩] 38))) := kept_alloc (kept_refl w) _
  have HY : Hid (∀ (u : World) (a0 a1 a2 a3 a4 a5 a6 : Value), Kept w u → Kept w (set7 u w.heap.size a0 a1 a2 a3 a4 a5 a6)) := fun u a0 a1 a2 a3 a4 a5 a6 h => kept_set7 h (Nat.le_refl _) _ _ _ _ _ _ _
  have HWd := hid hWd
  have gstats : (x.toList == [115, 116, 97, 116, 115]) = false := by rw [txt_eq, hx0]; decide
  have gversion : (x.toList == [118, 101, 114, 115, 105, 111, 110]) = false := by rw [txt_eq, hx0]; decide
  have gquit : (x.toList == [113, 117, 105, 116]) = false := by rw [txt_eq, hx0]; decide
  have gget : (x.toList == [103, 101, 116]) = false := by rw [txt_eq, hx0]; decide
  have gdelete : (x.toList == [100, 101, 108, 101, 116, 101]) = false := by rw [txt_eq, hx0]; decide
  have gtouch : (x.toList == [116, 111, 117, 99, 104]) = true := by rw [txt_eq, hx0]; decide
  clear hx0
  have HM := hid hM
  clear hM
  clear hWd
  go_enter Try.func16, Try.ntmps16
  go_wp2_with fail
  generalize w.alloc (.cells #[.int .i64 0, .slice none 0 0, .int .u32 0, .int .i64 0, .string ⟨#[]⟩, .bool false, .string ⟨#[]⟩] 38) = wa at *
  generalize w.heap.size = X at *
  refine (HWd.out _).mono ?_
  rintro e w1 ⟨A, cap, rfl, hcl, hk1⟩
  have HCl := hid hcl
  have HA1 := hid (at_kept HA.out hk1)
  have HK1 := hid (kept_trans HK.out hk1)
  clear hcl hk1
  go_wp2_with fail
  refine (Bad_fmt _).mono ?_
  rintro e w2 ⟨rfl, hk2⟩
  have AX := hid (at_alloc (at_kept HA1.out hk2) (.cells #[.int .i64 8, .slice none 0 0, .int .u32 0, .int .i64 0, .string ⟨#[]⟩, .bool false, .string rFmt] 38))
  have AY := hid (at_new w2 #[.int .i64 8, .slice none 0 0, .int .u32 0, .int .i64 0, .string ⟨#[]⟩, .bool false, .string rFmt] 38)
  have KV := hid (kept_alloc (kept_trans HK1.out hk2) (.cells #[.int .i64 8, .slice none 0 0, .int .u32 0, .int .i64 0, .string ⟨#[]⟩, .bool false, .string rFmt] 38))
  obtain ⟨k0, k1, k2⟩ := HCl.out _ (kept_alloc hk2 (.cells #[.int .i64 8, .slice none 0 0, .int .u32 0, .int .i64 0, .string ⟨#[]⟩, .bool false, .string rFmt] 38))
  have KU := hid (kept_alloc hk2 (.cells #[.int .i64 8, .slice none 0 0, .int .u32 0, .int .i64 0, .string ⟨#[]⟩, .bool false, .string rFmt] 38))
  clear hk2 HA HK HA1
  obtain ⟨y0, y1, y2, y3, y4, y5, y6, -⟩ := at_cells7 AY.out
  obtain ⟨c0, c1, c2, c3, c4, c5, c6, fr⟩ := at_cells7 AX.out
  go_wp2_with fail
  refine (HM.out _).mono ?_
  rintro e u1 ⟨rfl, hu⟩
  rw [hu]; clear hu u1
  go_wp2_with fail
  refine bodyPost_ret (res2 rfl _ rfl rfl (at_set7 AX.out _ _ _ _ _ _ _)) rfl ?_
  exact bad_end2 hc AX.out HY.out KV.out
set_option maxHeartbeats 1600000 in
set_option maxRecDepth 100000 in
theorem rp_touch_3t (s : ByteArray) (x x1 y : ByteArray) (c : Cm) (t : Int) (hc : c = bad rFmt) (hx0 : x = ⟨#[116, 111, 117, 99, 104]⟩) (b : Bool) (hy : (y.toList == [110, 111, 114, 101, 112, 108, 121]) = b) (hM : ∀ w, Calls Try.prog 22 #[.string x1] w fun e w' => e = .returned (.bool true) ∧ w' = w) (hT : ∀ w, Calls Try.prog 23 #[.string y] w fun e w' => e = .returned (.tuple #[.int .i64 t, .bool false]) ∧ w' = w) (w : World)
    (hWd : ∀ w, Calls Try.prog 21 #[.string s] w fun e w' => ∃ A cap, e = .returned (.slice (some ⟨A, 0, none⟩) 3 cap) ∧ (∀ u, Kept w' u → u.cell? ⟨A, 0, none⟩ = some (.string x) ∧ u.cell? ⟨A, 1, none⟩ = some (.string x1) ∧ u.cell? ⟨A, 2, none⟩ = some (.string y)) ∧ Kept w w') :
    Calls Try.prog 16 #[.string s] w fun e w' => ∃ kv, e = .returned (.tuple #[.agg #[.int .i64 c.kind, kv, .int .u32 c.flags, .int .i64 c.exp, .string ⟨#[]⟩, .bool c.quiet, .string c.reply], .int .i64 (-1)]) ∧ Keys w' kv c.keys ∧ Kept w w' := by
  have hz := zero26
  have HA : Hid (At (w.alloc (.cells #[.int .i64 0, .slice none 0 0, .int .u32 0, .int .i64 0, .string ⟨#[]⟩, .bool false, .string ⟨#[]⟩] 38)) w.heap.size #[.int .i64 0, .slice none 0 0, .int .u32 0, .int .i64 0, .string ⟨#[]⟩, .bool false, .string ⟨#[]⟩] 38) := at_new _ _ _
  have HK : Hid (Kept w (w.alloc (.cells #[.int .i64 0, .slice none 0 0, .int .u32 0, .int .i64 0, .string ⟨#[]⟩, .bool false, .string ⟨#[]⟩] 38))) := kept_alloc (kept_refl w) _
  have HY : Hid (∀ (u : World) (a0 a1 a2 a3 a4 a5 a6 : Value), Kept w u → Kept w (set7 u w.heap.size a0 a1 a2 a3 a4 a5 a6)) := fun u a0 a1 a2 a3 a4 a5 a6 h => kept_set7 h (Nat.le_refl _) _ _ _ _ _ _ _
  have HWd := hid hWd
  have gstats : (x.toList == [115, 116, 97, 116, 115]) = false := by rw [txt_eq, hx0]; decide
  have gversion : (x.toList == [118, 101, 114, 115, 105, 111, 110]) = false := by rw [txt_eq, hx0]; decide
  have gquit : (x.toList == [113, 117, 105, 116]) = false := by rw [txt_eq, hx0]; decide
  have gget : (x.toList == [103, 101, 116]) = false := by rw [txt_eq, hx0]; decide
  have gdelete : (x.toList == [100, 101, 108, 101, 116, 101]) = false := by rw [txt_eq, hx0]; decide
  have gtouch : (x.toList == [116, 111, 117, 99, 104]) = true := by rw [txt_eq, hx0]; decide
  clear hx0
  have HM := hid hM
  clear hM
  have HT := hid hT
  clear hT
  clear hWd
  go_enter Try.func16, Try.ntmps16
  go_wp2_with fail
  generalize w.alloc (.cells #[.int .i64 0, .slice none 0 0, .int .u32 0, .int .i64 0, .string ⟨#[]⟩, .bool false, .string ⟨#[]⟩] 38) = wa at *
  generalize w.heap.size = X at *
  refine (HWd.out _).mono ?_
  rintro e w1 ⟨A, cap, rfl, hcl, hk1⟩
  have HCl := hid hcl
  have HA1 := hid (at_kept HA.out hk1)
  have HK1 := hid (kept_trans HK.out hk1)
  clear hcl hk1
  go_wp2_with fail
  refine (Bad_fmt _).mono ?_
  rintro e w2 ⟨rfl, hk2⟩
  have AX := hid (at_alloc (at_kept HA1.out hk2) (.cells #[.int .i64 8, .slice none 0 0, .int .u32 0, .int .i64 0, .string ⟨#[]⟩, .bool false, .string rFmt] 38))
  have AY := hid (at_new w2 #[.int .i64 8, .slice none 0 0, .int .u32 0, .int .i64 0, .string ⟨#[]⟩, .bool false, .string rFmt] 38)
  have KV := hid (kept_alloc (kept_trans HK1.out hk2) (.cells #[.int .i64 8, .slice none 0 0, .int .u32 0, .int .i64 0, .string ⟨#[]⟩, .bool false, .string rFmt] 38))
  obtain ⟨k0, k1, k2⟩ := HCl.out _ (kept_alloc hk2 (.cells #[.int .i64 8, .slice none 0 0, .int .u32 0, .int .i64 0, .string ⟨#[]⟩, .bool false, .string rFmt] 38))
  have KU := hid (kept_alloc hk2 (.cells #[.int .i64 8, .slice none 0 0, .int .u32 0, .int .i64 0, .string ⟨#[]⟩, .bool false, .string rFmt] 38))
  clear hk2 HA HK HA1
  obtain ⟨y0, y1, y2, y3, y4, y5, y6, -⟩ := at_cells7 AY.out
  obtain ⟨c0, c1, c2, c3, c4, c5, c6, fr⟩ := at_cells7 AX.out
  go_wp2_with fail
  refine (HM.out _).mono ?_
  rintro e u1 ⟨rfl, hu⟩
  rw [hu]; clear hu u1
  go_wp2_with fail
  refine (HT.out _).mono ?_
  rintro e u1 ⟨rfl, hu⟩
  rw [hu]; clear hu u1
  go_wp2_with fail
  refine bodyPost_ret (res2 rfl _ rfl rfl (at_set7 AX.out _ _ _ _ _ _ _)) rfl ?_
  exact bad_end2 hc AX.out HY.out KV.out
set_option maxHeartbeats 1600000 in
set_option maxRecDepth 100000 in
theorem rp_touch_3g (s : ByteArray) (x x1 y : ByteArray) (c : Cm) (t : Int) (hc : c = ⟨4, [x1], 0, t, false, mt⟩) (hx0 : x = ⟨#[116, 111, 117, 99, 104]⟩) (b : Bool) (hy : (y.toList == [110, 111, 114, 101, 112, 108, 121]) = b) (hM : ∀ w, Calls Try.prog 22 #[.string x1] w fun e w' => e = .returned (.bool true) ∧ w' = w) (hT : ∀ w, Calls Try.prog 23 #[.string y] w fun e w' => e = .returned (.tuple #[.int .i64 t, .bool true]) ∧ w' = w) (w : World)
    (hWd : ∀ w, Calls Try.prog 21 #[.string s] w fun e w' => ∃ A cap, e = .returned (.slice (some ⟨A, 0, none⟩) 3 cap) ∧ (∀ u, Kept w' u → u.cell? ⟨A, 0, none⟩ = some (.string x) ∧ u.cell? ⟨A, 1, none⟩ = some (.string x1) ∧ u.cell? ⟨A, 2, none⟩ = some (.string y)) ∧ Kept w w') :
    Calls Try.prog 16 #[.string s] w fun e w' => ∃ kv, e = .returned (.tuple #[.agg #[.int .i64 c.kind, kv, .int .u32 c.flags, .int .i64 c.exp, .string ⟨#[]⟩, .bool c.quiet, .string c.reply], .int .i64 (-1)]) ∧ Keys w' kv c.keys ∧ Kept w w' := by
  have hz := zero26
  have HA : Hid (At (w.alloc (.cells #[.int .i64 0, .slice none 0 0, .int .u32 0, .int .i64 0, .string ⟨#[]⟩, .bool false, .string ⟨#[]⟩] 38)) w.heap.size #[.int .i64 0, .slice none 0 0, .int .u32 0, .int .i64 0, .string ⟨#[]⟩, .bool false, .string ⟨#[]⟩] 38) := at_new _ _ _
  have HK : Hid (Kept w (w.alloc (.cells #[.int .i64 0, .slice none 0 0, .int .u32 0, .int .i64 0, .string ⟨#[]⟩, .bool false, .string ⟨#[]⟩] 38))) := kept_alloc (kept_refl w) _
  have HY : Hid (∀ (u : World) (a0 a1 a2 a3 a4 a5 a6 : Value), Kept w u → Kept w (set7 u w.heap.size a0 a1 a2 a3 a4 a5 a6)) := fun u a0 a1 a2 a3 a4 a5 a6 h => kept_set7 h (Nat.le_refl _) _ _ _ _ _ _ _
  have HWd := hid hWd
  have gstats : (x.toList == [115, 116, 97, 116, 115]) = false := by rw [txt_eq, hx0]; decide
  have gversion : (x.toList == [118, 101, 114, 115, 105, 111, 110]) = false := by rw [txt_eq, hx0]; decide
  have gquit : (x.toList == [113, 117, 105, 116]) = false := by rw [txt_eq, hx0]; decide
  have gget : (x.toList == [103, 101, 116]) = false := by rw [txt_eq, hx0]; decide
  have gdelete : (x.toList == [100, 101, 108, 101, 116, 101]) = false := by rw [txt_eq, hx0]; decide
  have gtouch : (x.toList == [116, 111, 117, 99, 104]) = true := by rw [txt_eq, hx0]; decide
  clear hx0
  have HM := hid hM
  clear hM
  have HT := hid hT
  clear hT
  clear hWd
  go_enter Try.func16, Try.ntmps16
  go_wp2_with fail
  generalize w.alloc (.cells #[.int .i64 0, .slice none 0 0, .int .u32 0, .int .i64 0, .string ⟨#[]⟩, .bool false, .string ⟨#[]⟩] 38) = wa at *
  generalize w.heap.size = X at *
  refine (HWd.out _).mono ?_
  rintro e w1 ⟨A, cap, rfl, hcl, hk1⟩
  have HCl := hid hcl
  have HA1 := hid (at_kept HA.out hk1)
  have HK1 := hid (kept_trans HK.out hk1)
  clear hcl hk1
  go_wp2_with fail
  refine (Bad_fmt _).mono ?_
  rintro e w2 ⟨rfl, hk2⟩
  have AX := hid (at_alloc (at_kept HA1.out hk2) (.cells #[.int .i64 8, .slice none 0 0, .int .u32 0, .int .i64 0, .string ⟨#[]⟩, .bool false, .string rFmt] 38))
  have AY := hid (at_new w2 #[.int .i64 8, .slice none 0 0, .int .u32 0, .int .i64 0, .string ⟨#[]⟩, .bool false, .string rFmt] 38)
  have KV := hid (kept_alloc (kept_trans HK1.out hk2) (.cells #[.int .i64 8, .slice none 0 0, .int .u32 0, .int .i64 0, .string ⟨#[]⟩, .bool false, .string rFmt] 38))
  obtain ⟨k0, k1, k2⟩ := HCl.out _ (kept_alloc hk2 (.cells #[.int .i64 8, .slice none 0 0, .int .u32 0, .int .i64 0, .string ⟨#[]⟩, .bool false, .string rFmt] 38))
  have KU := hid (kept_alloc hk2 (.cells #[.int .i64 8, .slice none 0 0, .int .u32 0, .int .i64 0, .string ⟨#[]⟩, .bool false, .string rFmt] 38))
  clear hk2 HA HK HA1
  obtain ⟨y0, y1, y2, y3, y4, y5, y6, -⟩ := at_cells7 AY.out
  obtain ⟨c0, c1, c2, c3, c4, c5, c6, fr⟩ := at_cells7 AX.out
  go_wp2_with fail
  refine (HM.out _).mono ?_
  rintro e u1 ⟨rfl, hu⟩
  rw [hu]; clear hu u1
  go_wp2_with fail
  refine (HT.out _).mono ?_
  rintro e u1 ⟨rfl, hu⟩
  rw [hu]; clear hu u1
  generalize w2.alloc (.cells #[.int .i64 8, .slice none 0 0, .int .u32 0, .int .i64 0, .string ⟨#[]⟩, .bool false, .string rFmt] 38) = v at *
  generalize w2.heap.size = Y at *
  have AX2 := hid (at_alloc AX.out (.cells #[.string x1] 9))
  have KV2 := hid (kept_alloc KV.out (.cells #[.string x1] 9))
  have KS := hid (keys_one v x1 9)
  have NB : Hid (v.heap.size ≠ X) := by have := at_lt AX.out; show _ ≠ _; omega
  clear c0 c1 c2 c3 c4 c5 c6 fr
  obtain ⟨c0, c1, c2, c3, c4, c5, c6, fr⟩ := at_cells7 AX2.out
  go_wp2_with fail
  refine bodyPost_ret (res2 rfl _ rfl rfl (at_set7 AX2.out _ _ _ _ _ _ _)) rfl ?_
  subst hc
  exact ⟨_, rfl, keys_set7 KS.out (fun A' n' cap' h => by cases h; exact NB.out) _ _ _ _ _ _ _, HY.out _ _ _ _ _ _ _ _ KV2.out⟩
set_option maxHeartbeats 1600000 in
set_option maxRecDepth 100000 in
theorem rp_touch_4k (s : ByteArray) (x x1 x2 y : ByteArray) (c : Cm) (hc : c = bad rFmt) (hx0 : x = ⟨#[116, 111, 117, 99, 104]⟩) (hy : (y.toList == [110, 111, 114, 101, 112, 108, 121]) = true) (hM : ∀ w, Calls Try.prog 22 #[.string x1] w fun e w' => e = .returned (.bool false) ∧ w' = w) (w : World)
    (hWd : ∀ w, Calls Try.prog 21 #[.string s] w fun e w' => ∃ A cap, e = .returned (.slice (some ⟨A, 0, none⟩) 4 cap) ∧ (∀ u, Kept w' u → u.cell? ⟨A, 0, none⟩ = some (.string x) ∧ u.cell? ⟨A, 1, none⟩ = some (.string x1) ∧ u.cell? ⟨A, 2, none⟩ = some (.string x2) ∧ u.cell? ⟨A, 3, none⟩ = some (.string y)) ∧ Kept w w') :
    Calls Try.prog 16 #[.string s] w fun e w' => ∃ kv, e = .returned (.tuple #[.agg #[.int .i64 c.kind, kv, .int .u32 c.flags, .int .i64 c.exp, .string ⟨#[]⟩, .bool c.quiet, .string c.reply], .int .i64 (-1)]) ∧ Keys w' kv c.keys ∧ Kept w w' := by
  have hz := zero26
  have HA : Hid (At (w.alloc (.cells #[.int .i64 0, .slice none 0 0, .int .u32 0, .int .i64 0, .string ⟨#[]⟩, .bool false, .string ⟨#[]⟩] 38)) w.heap.size #[.int .i64 0, .slice none 0 0, .int .u32 0, .int .i64 0, .string ⟨#[]⟩, .bool false, .string ⟨#[]⟩] 38) := at_new _ _ _
  have HK : Hid (Kept w (w.alloc (.cells #[.int .i64 0, .slice none 0 0, .int .u32 0, .int .i64 0, .string ⟨#[]⟩, .bool false, .string ⟨#[]⟩] 38))) := kept_alloc (kept_refl w) _
  have HY : Hid (∀ (u : World) (a0 a1 a2 a3 a4 a5 a6 : Value), Kept w u → Kept w (set7 u w.heap.size a0 a1 a2 a3 a4 a5 a6)) := fun u a0 a1 a2 a3 a4 a5 a6 h => kept_set7 h (Nat.le_refl _) _ _ _ _ _ _ _
  have HWd := hid hWd
  have gstats : (x.toList == [115, 116, 97, 116, 115]) = false := by rw [txt_eq, hx0]; decide
  have gversion : (x.toList == [118, 101, 114, 115, 105, 111, 110]) = false := by rw [txt_eq, hx0]; decide
  have gquit : (x.toList == [113, 117, 105, 116]) = false := by rw [txt_eq, hx0]; decide
  have gget : (x.toList == [103, 101, 116]) = false := by rw [txt_eq, hx0]; decide
  have gdelete : (x.toList == [100, 101, 108, 101, 116, 101]) = false := by rw [txt_eq, hx0]; decide
  have gtouch : (x.toList == [116, 111, 117, 99, 104]) = true := by rw [txt_eq, hx0]; decide
  clear hx0
  have HM := hid hM
  clear hM
  clear hWd
  go_enter Try.func16, Try.ntmps16
  go_wp2_with fail
  generalize w.alloc (.cells #[.int .i64 0, .slice none 0 0, .int .u32 0, .int .i64 0, .string ⟨#[]⟩, .bool false, .string ⟨#[]⟩] 38) = wa at *
  generalize w.heap.size = X at *
  refine (HWd.out _).mono ?_
  rintro e w1 ⟨A, cap, rfl, hcl, hk1⟩
  have HCl := hid hcl
  have HA1 := hid (at_kept HA.out hk1)
  have HK1 := hid (kept_trans HK.out hk1)
  clear hcl hk1
  go_wp2_with fail
  refine (Bad_fmt _).mono ?_
  rintro e w2 ⟨rfl, hk2⟩
  have AX := hid (at_alloc (at_kept HA1.out hk2) (.cells #[.int .i64 8, .slice none 0 0, .int .u32 0, .int .i64 0, .string ⟨#[]⟩, .bool false, .string rFmt] 38))
  have AY := hid (at_new w2 #[.int .i64 8, .slice none 0 0, .int .u32 0, .int .i64 0, .string ⟨#[]⟩, .bool false, .string rFmt] 38)
  have KV := hid (kept_alloc (kept_trans HK1.out hk2) (.cells #[.int .i64 8, .slice none 0 0, .int .u32 0, .int .i64 0, .string ⟨#[]⟩, .bool false, .string rFmt] 38))
  obtain ⟨k0, k1, k2, k3⟩ := HCl.out _ (kept_alloc hk2 (.cells #[.int .i64 8, .slice none 0 0, .int .u32 0, .int .i64 0, .string ⟨#[]⟩, .bool false, .string rFmt] 38))
  have KU := hid (kept_alloc hk2 (.cells #[.int .i64 8, .slice none 0 0, .int .u32 0, .int .i64 0, .string ⟨#[]⟩, .bool false, .string rFmt] 38))
  clear hk2 HA HK HA1
  obtain ⟨y0, y1, y2, y3, y4, y5, y6, -⟩ := at_cells7 AY.out
  obtain ⟨c0, c1, c2, c3, c4, c5, c6, fr⟩ := at_cells7 AX.out
  go_wp2_with fail
  refine (HM.out _).mono ?_
  rintro e u1 ⟨rfl, hu⟩
  rw [hu]; clear hu u1
  go_wp2_with fail
  refine bodyPost_ret (res2 rfl _ rfl rfl (at_set7 AX.out _ _ _ _ _ _ _)) rfl ?_
  exact bad_end2 hc AX.out HY.out KV.out
set_option maxHeartbeats 1600000 in
set_option maxRecDepth 100000 in
theorem rp_touch_4t (s : ByteArray) (x x1 x2 y : ByteArray) (c : Cm) (t : Int) (hc : c = bad rFmt) (hx0 : x = ⟨#[116, 111, 117, 99, 104]⟩) (hy : (y.toList == [110, 111, 114, 101, 112, 108, 121]) = true) (hM : ∀ w, Calls Try.prog 22 #[.string x1] w fun e w' => e = .returned (.bool true) ∧ w' = w) (hT : ∀ w, Calls Try.prog 23 #[.string x2] w fun e w' => e = .returned (.tuple #[.int .i64 t, .bool false]) ∧ w' = w) (w : World)
    (hWd : ∀ w, Calls Try.prog 21 #[.string s] w fun e w' => ∃ A cap, e = .returned (.slice (some ⟨A, 0, none⟩) 4 cap) ∧ (∀ u, Kept w' u → u.cell? ⟨A, 0, none⟩ = some (.string x) ∧ u.cell? ⟨A, 1, none⟩ = some (.string x1) ∧ u.cell? ⟨A, 2, none⟩ = some (.string x2) ∧ u.cell? ⟨A, 3, none⟩ = some (.string y)) ∧ Kept w w') :
    Calls Try.prog 16 #[.string s] w fun e w' => ∃ kv, e = .returned (.tuple #[.agg #[.int .i64 c.kind, kv, .int .u32 c.flags, .int .i64 c.exp, .string ⟨#[]⟩, .bool c.quiet, .string c.reply], .int .i64 (-1)]) ∧ Keys w' kv c.keys ∧ Kept w w' := by
  have hz := zero26
  have HA : Hid (At (w.alloc (.cells #[.int .i64 0, .slice none 0 0, .int .u32 0, .int .i64 0, .string ⟨#[]⟩, .bool false, .string ⟨#[]⟩] 38)) w.heap.size #[.int .i64 0, .slice none 0 0, .int .u32 0, .int .i64 0, .string ⟨#[]⟩, .bool false, .string ⟨#[]⟩] 38) := at_new _ _ _
  have HK : Hid (Kept w (w.alloc (.cells #[.int .i64 0, .slice none 0 0, .int .u32 0, .int .i64 0, .string ⟨#[]⟩, .bool false, .string ⟨#[]⟩] 38))) := kept_alloc (kept_refl w) _
  have HY : Hid (∀ (u : World) (a0 a1 a2 a3 a4 a5 a6 : Value), Kept w u → Kept w (set7 u w.heap.size a0 a1 a2 a3 a4 a5 a6)) := fun u a0 a1 a2 a3 a4 a5 a6 h => kept_set7 h (Nat.le_refl _) _ _ _ _ _ _ _
  have HWd := hid hWd
  have gstats : (x.toList == [115, 116, 97, 116, 115]) = false := by rw [txt_eq, hx0]; decide
  have gversion : (x.toList == [118, 101, 114, 115, 105, 111, 110]) = false := by rw [txt_eq, hx0]; decide
  have gquit : (x.toList == [113, 117, 105, 116]) = false := by rw [txt_eq, hx0]; decide
  have gget : (x.toList == [103, 101, 116]) = false := by rw [txt_eq, hx0]; decide
  have gdelete : (x.toList == [100, 101, 108, 101, 116, 101]) = false := by rw [txt_eq, hx0]; decide
  have gtouch : (x.toList == [116, 111, 117, 99, 104]) = true := by rw [txt_eq, hx0]; decide
  clear hx0
  have HM := hid hM
  clear hM
  have HT := hid hT
  clear hT
  clear hWd
  go_enter Try.func16, Try.ntmps16
  go_wp2_with fail
  generalize w.alloc (.cells #[.int .i64 0, .slice none 0 0, .int .u32 0, .int .i64 0, .string ⟨#[]⟩, .bool false, .string ⟨#[]⟩] 38) = wa at *
  generalize w.heap.size = X at *
  refine (HWd.out _).mono ?_
  rintro e w1 ⟨A, cap, rfl, hcl, hk1⟩
  have HCl := hid hcl
  have HA1 := hid (at_kept HA.out hk1)
  have HK1 := hid (kept_trans HK.out hk1)
  clear hcl hk1
  go_wp2_with fail
  refine (Bad_fmt _).mono ?_
  rintro e w2 ⟨rfl, hk2⟩
  have AX := hid (at_alloc (at_kept HA1.out hk2) (.cells #[.int .i64 8, .slice none 0 0, .int .u32 0, .int .i64 0, .string ⟨#[]⟩, .bool false, .string rFmt] 38))
  have AY := hid (at_new w2 #[.int .i64 8, .slice none 0 0, .int .u32 0, .int .i64 0, .string ⟨#[]⟩, .bool false, .string rFmt] 38)
  have KV := hid (kept_alloc (kept_trans HK1.out hk2) (.cells #[.int .i64 8, .slice none 0 0, .int .u32 0, .int .i64 0, .string ⟨#[]⟩, .bool false, .string rFmt] 38))
  obtain ⟨k0, k1, k2, k3⟩ := HCl.out _ (kept_alloc hk2 (.cells #[.int .i64 8, .slice none 0 0, .int .u32 0, .int .i64 0, .string ⟨#[]⟩, .bool false, .string rFmt] 38))
  have KU := hid (kept_alloc hk2 (.cells #[.int .i64 8, .slice none 0 0, .int .u32 0, .int .i64 0, .string ⟨#[]⟩, .bool false, .string rFmt] 38))
  clear hk2 HA HK HA1
  obtain ⟨y0, y1, y2, y3, y4, y5, y6, -⟩ := at_cells7 AY.out
  obtain ⟨c0, c1, c2, c3, c4, c5, c6, fr⟩ := at_cells7 AX.out
  go_wp2_with fail
  refine (HM.out _).mono ?_
  rintro e u1 ⟨rfl, hu⟩
  rw [hu]; clear hu u1
  go_wp2_with fail
  refine (HT.out _).mono ?_
  rintro e u1 ⟨rfl, hu⟩
  rw [hu]; clear hu u1
  go_wp2_with fail
  refine bodyPost_ret (res2 rfl _ rfl rfl (at_set7 AX.out _ _ _ _ _ _ _)) rfl ?_
  exact bad_end2 hc AX.out HY.out KV.out
set_option maxHeartbeats 1600000 in
set_option maxRecDepth 100000 in
theorem rp_touch_4g (s : ByteArray) (x x1 x2 y : ByteArray) (c : Cm) (t : Int) (hc : c = ⟨4, [x1], 0, t, true, mt⟩) (hx0 : x = ⟨#[116, 111, 117, 99, 104]⟩) (hy : (y.toList == [110, 111, 114, 101, 112, 108, 121]) = true) (hM : ∀ w, Calls Try.prog 22 #[.string x1] w fun e w' => e = .returned (.bool true) ∧ w' = w) (hT : ∀ w, Calls Try.prog 23 #[.string x2] w fun e w' => e = .returned (.tuple #[.int .i64 t, .bool true]) ∧ w' = w) (w : World)
    (hWd : ∀ w, Calls Try.prog 21 #[.string s] w fun e w' => ∃ A cap, e = .returned (.slice (some ⟨A, 0, none⟩) 4 cap) ∧ (∀ u, Kept w' u → u.cell? ⟨A, 0, none⟩ = some (.string x) ∧ u.cell? ⟨A, 1, none⟩ = some (.string x1) ∧ u.cell? ⟨A, 2, none⟩ = some (.string x2) ∧ u.cell? ⟨A, 3, none⟩ = some (.string y)) ∧ Kept w w') :
    Calls Try.prog 16 #[.string s] w fun e w' => ∃ kv, e = .returned (.tuple #[.agg #[.int .i64 c.kind, kv, .int .u32 c.flags, .int .i64 c.exp, .string ⟨#[]⟩, .bool c.quiet, .string c.reply], .int .i64 (-1)]) ∧ Keys w' kv c.keys ∧ Kept w w' := by
  have hz := zero26
  have HA : Hid (At (w.alloc (.cells #[.int .i64 0, .slice none 0 0, .int .u32 0, .int .i64 0, .string ⟨#[]⟩, .bool false, .string ⟨#[]⟩] 38)) w.heap.size #[.int .i64 0, .slice none 0 0, .int .u32 0, .int .i64 0, .string ⟨#[]⟩, .bool false, .string ⟨#[]⟩] 38) := at_new _ _ _
  have HK : Hid (Kept w (w.alloc (.cells #[.int .i64 0, .slice none 0 0, .int .u32 0, .int .i64 0, .string ⟨#[]⟩, .bool false, .string ⟨#[]⟩] 38))) := kept_alloc (kept_refl w) _
  have HY : Hid (∀ (u : World) (a0 a1 a2 a3 a4 a5 a6 : Value), Kept w u → Kept w (set7 u w.heap.size a0 a1 a2 a3 a4 a5 a6)) := fun u a0 a1 a2 a3 a4 a5 a6 h => kept_set7 h (Nat.le_refl _) _ _ _ _ _ _ _
  have HWd := hid hWd
  have gstats : (x.toList == [115, 116, 97, 116, 115]) = false := by rw [txt_eq, hx0]; decide
  have gversion : (x.toList == [118, 101, 114, 115, 105, 111, 110]) = false := by rw [txt_eq, hx0]; decide
  have gquit : (x.toList == [113, 117, 105, 116]) = false := by rw [txt_eq, hx0]; decide
  have gget : (x.toList == [103, 101, 116]) = false := by rw [txt_eq, hx0]; decide
  have gdelete : (x.toList == [100, 101, 108, 101, 116, 101]) = false := by rw [txt_eq, hx0]; decide
  have gtouch : (x.toList == [116, 111, 117, 99, 104]) = true := by rw [txt_eq, hx0]; decide
  clear hx0
  have HM := hid hM
  clear hM
  have HT := hid hT
  clear hT
  clear hWd
  go_enter Try.func16, Try.ntmps16
  go_wp2_with fail
  generalize w.alloc (.cells #[.int .i64 0, .slice none 0 0, .int .u32 0, .int .i64 0, .string ⟨#[]⟩, .bool false, .string ⟨#[]⟩] 38) = wa at *
  generalize w.heap.size = X at *
  refine (HWd.out _).mono ?_
  rintro e w1 ⟨A, cap, rfl, hcl, hk1⟩
  have HCl := hid hcl
  have HA1 := hid (at_kept HA.out hk1)
  have HK1 := hid (kept_trans HK.out hk1)
  clear hcl hk1
  go_wp2_with fail
  refine (Bad_fmt _).mono ?_
  rintro e w2 ⟨rfl, hk2⟩
  have AX := hid (at_alloc (at_kept HA1.out hk2) (.cells #[.int .i64 8, .slice none 0 0, .int .u32 0, .int .i64 0, .string ⟨#[]⟩, .bool false, .string rFmt] 38))
  have AY := hid (at_new w2 #[.int .i64 8, .slice none 0 0, .int .u32 0, .int .i64 0, .string ⟨#[]⟩, .bool false, .string rFmt] 38)
  have KV := hid (kept_alloc (kept_trans HK1.out hk2) (.cells #[.int .i64 8, .slice none 0 0, .int .u32 0, .int .i64 0, .string ⟨#[]⟩, .bool false, .string rFmt] 38))
  obtain ⟨k0, k1, k2, k3⟩ := HCl.out _ (kept_alloc hk2 (.cells #[.int .i64 8, .slice none 0 0, .int .u32 0, .int .i64 0, .string ⟨#[]⟩, .bool false, .string rFmt] 38))
  have KU := hid (kept_alloc hk2 (.cells #[.int .i64 8, .slice none 0 0, .int .u32 0, .int .i64 0, .string ⟨#[]⟩, .bool false, .string rFmt] 38))
  clear hk2 HA HK HA1
  obtain ⟨y0, y1, y2, y3, y4, y5, y6, -⟩ := at_cells7 AY.out
  obtain ⟨c0, c1, c2, c3, c4, c5, c6, fr⟩ := at_cells7 AX.out
  go_wp2_with fail
  refine (HM.out _).mono ?_
  rintro e u1 ⟨rfl, hu⟩
  rw [hu]; clear hu u1
  go_wp2_with fail
  refine (HT.out _).mono ?_
  rintro e u1 ⟨rfl, hu⟩
  rw [hu]; clear hu u1
  generalize w2.alloc (.cells #[.int .i64 8, .slice none 0 0, .int .u32 0, .int .i64 0, .string ⟨#[]⟩, .bool false, .string rFmt] 38) = v at *
  generalize w2.heap.size = Y at *
  have AX2 := hid (at_alloc AX.out (.cells #[.string x1] 9))
  have KV2 := hid (kept_alloc KV.out (.cells #[.string x1] 9))
  have KS := hid (keys_one v x1 9)
  have NB : Hid (v.heap.size ≠ X) := by have := at_lt AX.out; show _ ≠ _; omega
  clear c0 c1 c2 c3 c4 c5 c6 fr
  obtain ⟨c0, c1, c2, c3, c4, c5, c6, fr⟩ := at_cells7 AX2.out
  go_wp2_with fail
  refine bodyPost_ret (res2 rfl _ rfl rfl (at_set7 AX2.out _ _ _ _ _ _ _)) rfl ?_
  subst hc
  exact ⟨_, rfl, keys_set7 KS.out (fun A' n' cap' h => by cases h; exact NB.out) _ _ _ _ _ _ _, HY.out _ _ _ _ _ _ _ _ KV2.out⟩
set_option maxHeartbeats 1600000 in
set_option maxRecDepth 100000 in
theorem rp_touch_4l (s : ByteArray) (x x1 x2 y : ByteArray) (c : Cm) (hc : c = bad rFmt) (hx0 : x = ⟨#[116, 111, 117, 99, 104]⟩) (hy : (y.toList == [110, 111, 114, 101, 112, 108, 121]) = false) (w : World)
    (hWd : ∀ w, Calls Try.prog 21 #[.string s] w fun e w' => ∃ A cap, e = .returned (.slice (some ⟨A, 0, none⟩) 4 cap) ∧ (∀ u, Kept w' u → u.cell? ⟨A, 0, none⟩ = some (.string x) ∧ u.cell? ⟨A, 1, none⟩ = some (.string x1) ∧ u.cell? ⟨A, 2, none⟩ = some (.string x2) ∧ u.cell? ⟨A, 3, none⟩ = some (.string y)) ∧ Kept w w') :
    Calls Try.prog 16 #[.string s] w fun e w' => ∃ kv, e = .returned (.tuple #[.agg #[.int .i64 c.kind, kv, .int .u32 c.flags, .int .i64 c.exp, .string ⟨#[]⟩, .bool c.quiet, .string c.reply], .int .i64 (-1)]) ∧ Keys w' kv c.keys ∧ Kept w w' := by
  have hz := zero26
  have HA : Hid (At (w.alloc (.cells #[.int .i64 0, .slice none 0 0, .int .u32 0, .int .i64 0, .string ⟨#[]⟩, .bool false, .string ⟨#[]⟩] 38)) w.heap.size #[.int .i64 0, .slice none 0 0, .int .u32 0, .int .i64 0, .string ⟨#[]⟩, .bool false, .string ⟨#[]⟩] 38) := at_new _ _ _
  have HK : Hid (Kept w (w.alloc (.cells #[.int .i64 0, .slice none 0 0, .int .u32 0, .int .i64 0, .string ⟨#[]⟩, .bool false, .string ⟨#[]⟩] 38))) := kept_alloc (kept_refl w) _
  have HY : Hid (∀ (u : World) (a0 a1 a2 a3 a4 a5 a6 : Value), Kept w u → Kept w (set7 u w.heap.size a0 a1 a2 a3 a4 a5 a6)) := fun u a0 a1 a2 a3 a4 a5 a6 h => kept_set7 h (Nat.le_refl _) _ _ _ _ _ _ _
  have HWd := hid hWd
  have gstats : (x.toList == [115, 116, 97, 116, 115]) = false := by rw [txt_eq, hx0]; decide
  have gversion : (x.toList == [118, 101, 114, 115, 105, 111, 110]) = false := by rw [txt_eq, hx0]; decide
  have gquit : (x.toList == [113, 117, 105, 116]) = false := by rw [txt_eq, hx0]; decide
  have gget : (x.toList == [103, 101, 116]) = false := by rw [txt_eq, hx0]; decide
  have gdelete : (x.toList == [100, 101, 108, 101, 116, 101]) = false := by rw [txt_eq, hx0]; decide
  have gtouch : (x.toList == [116, 111, 117, 99, 104]) = true := by rw [txt_eq, hx0]; decide
  clear hx0
  clear hWd
  go_enter Try.func16, Try.ntmps16
  go_wp2_with fail
  generalize w.alloc (.cells #[.int .i64 0, .slice none 0 0, .int .u32 0, .int .i64 0, .string ⟨#[]⟩, .bool false, .string ⟨#[]⟩] 38) = wa at *
  generalize w.heap.size = X at *
  refine (HWd.out _).mono ?_
  rintro e w1 ⟨A, cap, rfl, hcl, hk1⟩
  have HCl := hid hcl
  have HA1 := hid (at_kept HA.out hk1)
  have HK1 := hid (kept_trans HK.out hk1)
  clear hcl hk1
  go_wp2_with fail
  refine (Bad_fmt _).mono ?_
  rintro e w2 ⟨rfl, hk2⟩
  have AX := hid (at_alloc (at_kept HA1.out hk2) (.cells #[.int .i64 8, .slice none 0 0, .int .u32 0, .int .i64 0, .string ⟨#[]⟩, .bool false, .string rFmt] 38))
  have AY := hid (at_new w2 #[.int .i64 8, .slice none 0 0, .int .u32 0, .int .i64 0, .string ⟨#[]⟩, .bool false, .string rFmt] 38)
  have KV := hid (kept_alloc (kept_trans HK1.out hk2) (.cells #[.int .i64 8, .slice none 0 0, .int .u32 0, .int .i64 0, .string ⟨#[]⟩, .bool false, .string rFmt] 38))
  obtain ⟨k0, k1, k2, k3⟩ := HCl.out _ (kept_alloc hk2 (.cells #[.int .i64 8, .slice none 0 0, .int .u32 0, .int .i64 0, .string ⟨#[]⟩, .bool false, .string rFmt] 38))
  have KU := hid (kept_alloc hk2 (.cells #[.int .i64 8, .slice none 0 0, .int .u32 0, .int .i64 0, .string ⟨#[]⟩, .bool false, .string rFmt] 38))
  clear hk2 HA HK HA1
  obtain ⟨y0, y1, y2, y3, y4, y5, y6, -⟩ := at_cells7 AY.out
  obtain ⟨c0, c1, c2, c3, c4, c5, c6, fr⟩ := at_cells7 AX.out
  go_wp2_with fail
  refine bodyPost_ret (res2 rfl _ rfl rfl (at_set7 AX.out _ _ _ _ _ _ _)) rfl ?_
  exact bad_end2 hc AX.out HY.out KV.out
set_option maxHeartbeats 1600000 in
set_option maxRecDepth 100000 in
theorem rp_touch_n (s : ByteArray) (x y : ByteArray) (n : Nat) (c : Cm) (hc : c = bad rFmt) (hx0 : x = ⟨#[116, 111, 117, 99, 104]⟩) (b : Bool) (hy : (y.toList == [110, 111, 114, 101, 112, 108, 121]) = b) (hn : 4 < n ∧ n ≤ 6000) (w : World)
    (hWd : ∀ w, Calls Try.prog 21 #[.string s] w fun e w' => ∃ A cap, e = .returned (.slice (some ⟨A, 0, none⟩) n cap) ∧ (∀ u, Kept w' u → u.cell? ⟨A, 0, none⟩ = some (.string x) ∧ u.cell? ⟨A, n - 1, none⟩ = some (.string y)) ∧ Kept w w') :
    Calls Try.prog 16 #[.string s] w fun e w' => ∃ kv, e = .returned (.tuple #[.agg #[.int .i64 c.kind, kv, .int .u32 c.flags, .int .i64 c.exp, .string ⟨#[]⟩, .bool c.quiet, .string c.reply], .int .i64 (-1)]) ∧ Keys w' kv c.keys ∧ Kept w w' := by
  have hz := zero26
  have HA : Hid (At (w.alloc (.cells #[.int .i64 0, .slice none 0 0, .int .u32 0, .int .i64 0, .string ⟨#[]⟩, .bool false, .string ⟨#[]⟩] 38)) w.heap.size #[.int .i64 0, .slice none 0 0, .int .u32 0, .int .i64 0, .string ⟨#[]⟩, .bool false, .string ⟨#[]⟩] 38) := at_new _ _ _
  have HK : Hid (Kept w (w.alloc (.cells #[.int .i64 0, .slice none 0 0, .int .u32 0, .int .i64 0, .string ⟨#[]⟩, .bool false, .string ⟨#[]⟩] 38))) := kept_alloc (kept_refl w) _
  have HY : Hid (∀ (u : World) (a0 a1 a2 a3 a4 a5 a6 : Value), Kept w u → Kept w (set7 u w.heap.size a0 a1 a2 a3 a4 a5 a6)) := fun u a0 a1 a2 a3 a4 a5 a6 h => kept_set7 h (Nat.le_refl _) _ _ _ _ _ _ _
  have HWd := hid hWd
  have gstats : (x.toList == [115, 116, 97, 116, 115]) = false := by rw [txt_eq, hx0]; decide
  have gversion : (x.toList == [118, 101, 114, 115, 105, 111, 110]) = false := by rw [txt_eq, hx0]; decide
  have gquit : (x.toList == [113, 117, 105, 116]) = false := by rw [txt_eq, hx0]; decide
  have gget : (x.toList == [103, 101, 116]) = false := by rw [txt_eq, hx0]; decide
  have gdelete : (x.toList == [100, 101, 108, 101, 116, 101]) = false := by rw [txt_eq, hx0]; decide
  have gtouch : (x.toList == [116, 111, 117, 99, 104]) = true := by rw [txt_eq, hx0]; decide
  clear hx0
  have n1 : (1 : Int) < (n : Int) := by omega
  have ne3 : ((n : Int) != 3) = true := by simp; omega
  have nq3 : ((n : Int) == 3) = false := by simp; omega
  have ne4 : ((n : Int) != 4) = true := by simp; omega
  have nq4 : ((n : Int) == 4) = false := by simp; omega
  have hn6 : (n : Int) ≤ 6000 := by omega
  clear hn
  clear hWd
  go_enter Try.func16, Try.ntmps16
  go_wp2_with fail
  generalize w.alloc (.cells #[.int .i64 0, .slice none 0 0, .int .u32 0, .int .i64 0, .string ⟨#[]⟩, .bool false, .string ⟨#[]⟩] 38) = wa at *
  generalize w.heap.size = X at *
  refine (HWd.out _).mono ?_
  rintro e w1 ⟨A, cap, rfl, hcl, hk1⟩
  have HCl := hid hcl
  have HA1 := hid (at_kept HA.out hk1)
  have HK1 := hid (kept_trans HK.out hk1)
  clear hcl hk1
  go_wp2_with fail
  refine (Bad_fmt _).mono ?_
  rintro e w2 ⟨rfl, hk2⟩
  have AX := hid (at_alloc (at_kept HA1.out hk2) (.cells #[.int .i64 8, .slice none 0 0, .int .u32 0, .int .i64 0, .string ⟨#[]⟩, .bool false, .string rFmt] 38))
  have AY := hid (at_new w2 #[.int .i64 8, .slice none 0 0, .int .u32 0, .int .i64 0, .string ⟨#[]⟩, .bool false, .string rFmt] 38)
  have KV := hid (kept_alloc (kept_trans HK1.out hk2) (.cells #[.int .i64 8, .slice none 0 0, .int .u32 0, .int .i64 0, .string ⟨#[]⟩, .bool false, .string rFmt] 38))
  obtain ⟨k0, k1⟩ := HCl.out _ (kept_alloc hk2 (.cells #[.int .i64 8, .slice none 0 0, .int .u32 0, .int .i64 0, .string ⟨#[]⟩, .bool false, .string rFmt] 38))
  have KU := hid (kept_alloc hk2 (.cells #[.int .i64 8, .slice none 0 0, .int .u32 0, .int .i64 0, .string ⟨#[]⟩, .bool false, .string rFmt] 38))
  clear hk2 HA HK HA1
  obtain ⟨y0, y1, y2, y3, y4, y5, y6, -⟩ := at_cells7 AY.out
  obtain ⟨c0, c1, c2, c3, c4, c5, c6, fr⟩ := at_cells7 AX.out
  go_wp2_with fail
  refine bodyPost_ret (res2 rfl _ rfl rfl (at_set7 AX.out _ _ _ _ _ _ _)) rfl ?_
  exact bad_end2 hc AX.out HY.out KV.out
end Go.Proofs.Ytjlojkcdglocbaa
