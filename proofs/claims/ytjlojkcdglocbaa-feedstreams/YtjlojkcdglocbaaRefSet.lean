/- The contract of the reference's set: it answers what the plain function does, of any row of words. The line has at most 5000 bytes. It turns nothing that was there. -/
import Derived.Test.YtjlojkcdglocbaaRefWords
import Derived.OrdersHeld
import Derived.Deep.RegionHeld3
namespace Go.Proofs.Ytjlojkcdglocbaa
open Go.ChangeShapes Go.WideShapes Go.ChangeAt Go.RowKit
set_option linter.unusedVariables false
set_option linter.unusedSimpArgs false

set_option maxHeartbeats 1600000 in
set_option maxRecDepth 100000 in
theorem rs5_d (d : Int) (A cap : Nat) (x1 x2 x3 x4 : ByteArray) (c : Cm) (hc : c = bad rFmt) (lt : Bool) (hd : d < 0) (w : World) (hx : ∀ u, Kept w u → u.cell? ⟨A, 1, none⟩ = some (.string x1) ∧ u.cell? ⟨A, 2, none⟩ = some (.string x2) ∧ u.cell? ⟨A, 3, none⟩ = some (.string x3) ∧ u.cell? ⟨A, 4, none⟩ = some (.string x4)) (hD : ∀ w, Calls Try.prog 31 #[.string x4] w fun e w' => e = .returned (.int .i64 d) ∧ w' = w) :
    Calls Try.prog 24 #[.slice (some ⟨A, 0, none⟩) 5 cap, .bool lt] w fun e w' => ∃ kv, e = .returned (.tuple #[.agg #[.int .i64 c.kind, kv, .int .u32 c.flags, .int .i64 c.exp, .string ⟨#[]⟩, .bool c.quiet, .string c.reply], .int .i64 d]) ∧ Keys w' kv c.keys ∧ Kept w w' := by
  have hz := zero26
  have HA : Hid (At (w.alloc (.cells #[.int .i64 0, .slice none 0 0, .int .u32 0, .int .i64 0, .string ⟨#[]⟩, .bool false, .string ⟨#[]⟩] 38)) w.heap.size #[.int .i64 0, .slice none 0 0, .int .u32 0, .int .i64 0, .string ⟨#[]⟩, .bool false, .string ⟨#[]⟩] 38) := at_new _ _ _
  have HK : Hid (Kept w (w.alloc (.cells #[.int .i64 0, .slice none 0 0, .int .u32 0, .int .i64 0, .string ⟨#[]⟩, .bool false, .string ⟨#[]⟩] 38))) := kept_alloc (kept_refl w) _
  have HY : Hid (∀ (u : World) (a0 a1 a2 a3 a4 a5 a6 : Value), Kept w u → Kept w (set7 u w.heap.size a0 a1 a2 a3 a4 a5 a6)) := fun u a0 a1 a2 a3 a4 a5 a6 h => kept_set7 h (Nat.le_refl _) _ _ _ _ _ _ _
  have HX := hid hx
  have HD := hid hD
  clear hx hD
  go_enter Try.func24, Try.ntmps24
  go_wp2_with fail
  generalize w.alloc (.cells #[.int .i64 0, .slice none 0 0, .int .u32 0, .int .i64 0, .string ⟨#[]⟩, .bool false, .string ⟨#[]⟩] 38) = wa at *
  generalize w.heap.size = X at *
  refine (Bad_fmt _).mono ?_
  rintro e w2 ⟨rfl, hk2⟩
  have AX := hid (at_alloc (at_kept HA.out hk2) (.cells #[.int .i64 8, .slice none 0 0, .int .u32 0, .int .i64 0, .string ⟨#[]⟩, .bool false, .string rFmt] 38))
  have AY := hid (at_new w2 #[.int .i64 8, .slice none 0 0, .int .u32 0, .int .i64 0, .string ⟨#[]⟩, .bool false, .string rFmt] 38)
  have KV := hid (kept_alloc (kept_trans HK.out hk2) (.cells #[.int .i64 8, .slice none 0 0, .int .u32 0, .int .i64 0, .string ⟨#[]⟩, .bool false, .string rFmt] 38))
  clear hk2 HA HK
  obtain ⟨hx1, hx2, hx3, hx4⟩ := HX.out _ KV.out
  go_wp2_with fail
  generalize w2.alloc (.cells #[.int .i64 8, .slice none 0 0, .int .u32 0, .int .i64 0, .string ⟨#[]⟩, .bool false, .string rFmt] 38) = v at *
  generalize w2.heap.size = Y at *
  obtain ⟨y0, y1, y2, y3, y4, y5, y6, -⟩ := at_cells7 AY.out
  obtain ⟨c0, c1, c2, c3, c4, c5, c6, fr⟩ := at_cells7 AX.out
  refine (HD.out _).mono ?_
  rintro e u1 ⟨rfl, hu⟩
  rw [hu]; clear hu u1
  go_wp2_with fail
  refine bodyPost_ret (res2 rfl _ rfl rfl (at_set7 AX.out _ _ _ _ _ _ _)) rfl ?_
  exact bad_end2 hc AX.out HY.out KV.out
set_option maxHeartbeats 1600000 in
set_option maxRecDepth 100000 in
theorem rs5_k (d : Int) (A cap : Nat) (x1 x2 x3 x4 : ByteArray) (c : Cm) (hc : c = bad rFmt) (lt : Bool) (hd : ¬ d < 0) (w : World) (hx : ∀ u, Kept w u → u.cell? ⟨A, 1, none⟩ = some (.string x1) ∧ u.cell? ⟨A, 2, none⟩ = some (.string x2) ∧ u.cell? ⟨A, 3, none⟩ = some (.string x3) ∧ u.cell? ⟨A, 4, none⟩ = some (.string x4)) (hD : ∀ w, Calls Try.prog 31 #[.string x4] w fun e w' => e = .returned (.int .i64 d) ∧ w' = w) (hM : ∀ w, Calls Try.prog 22 #[.string x1] w fun e w' => e = .returned (.bool false) ∧ w' = w) :
    Calls Try.prog 24 #[.slice (some ⟨A, 0, none⟩) 5 cap, .bool lt] w fun e w' => ∃ kv, e = .returned (.tuple #[.agg #[.int .i64 c.kind, kv, .int .u32 c.flags, .int .i64 c.exp, .string ⟨#[]⟩, .bool c.quiet, .string c.reply], .int .i64 d]) ∧ Keys w' kv c.keys ∧ Kept w w' := by
  have hz := zero26
  have HA : Hid (At (w.alloc (.cells #[.int .i64 0, .slice none 0 0, .int .u32 0, .int .i64 0, .string ⟨#[]⟩, .bool false, .string ⟨#[]⟩] 38)) w.heap.size #[.int .i64 0, .slice none 0 0, .int .u32 0, .int .i64 0, .string ⟨#[]⟩, .bool false, .string ⟨#[]⟩] 38) := at_new _ _ _
  have HK : Hid (Kept w (w.alloc (.cells #[.int .i64 0, .slice none 0 0, .int .u32 0, .int .i64 0, .string ⟨#[]⟩, .bool false, .string ⟨#[]⟩] 38))) := kept_alloc (kept_refl w) _
  have HY : Hid (∀ (u : World) (a0 a1 a2 a3 a4 a5 a6 : Value), Kept w u → Kept w (set7 u w.heap.size a0 a1 a2 a3 a4 a5 a6)) := fun u a0 a1 a2 a3 a4 a5 a6 h => kept_set7 h (Nat.le_refl _) _ _ _ _ _ _ _
  have HX := hid hx
  have HD := hid hD
  have HM := hid hM
  clear hx hD hM
  go_enter Try.func24, Try.ntmps24
  go_wp2_with fail
  generalize w.alloc (.cells #[.int .i64 0, .slice none 0 0, .int .u32 0, .int .i64 0, .string ⟨#[]⟩, .bool false, .string ⟨#[]⟩] 38) = wa at *
  generalize w.heap.size = X at *
  refine (Bad_fmt _).mono ?_
  rintro e w2 ⟨rfl, hk2⟩
  have AX := hid (at_alloc (at_kept HA.out hk2) (.cells #[.int .i64 8, .slice none 0 0, .int .u32 0, .int .i64 0, .string ⟨#[]⟩, .bool false, .string rFmt] 38))
  have AY := hid (at_new w2 #[.int .i64 8, .slice none 0 0, .int .u32 0, .int .i64 0, .string ⟨#[]⟩, .bool false, .string rFmt] 38)
  have KV := hid (kept_alloc (kept_trans HK.out hk2) (.cells #[.int .i64 8, .slice none 0 0, .int .u32 0, .int .i64 0, .string ⟨#[]⟩, .bool false, .string rFmt] 38))
  clear hk2 HA HK
  obtain ⟨hx1, hx2, hx3, hx4⟩ := HX.out _ KV.out
  go_wp2_with fail
  generalize w2.alloc (.cells #[.int .i64 8, .slice none 0 0, .int .u32 0, .int .i64 0, .string ⟨#[]⟩, .bool false, .string rFmt] 38) = v at *
  generalize w2.heap.size = Y at *
  obtain ⟨y0, y1, y2, y3, y4, y5, y6, -⟩ := at_cells7 AY.out
  obtain ⟨c0, c1, c2, c3, c4, c5, c6, fr⟩ := at_cells7 AX.out
  refine (HD.out _).mono ?_
  rintro e u1 ⟨rfl, hu⟩
  rw [hu]; clear hu u1
  go_wp2_with fail
  refine (HM.out _).mono ?_
  rintro e u1 ⟨rfl, hu⟩
  rw [hu]; clear hu u1
  go_wp2_with fail
  refine bodyPost_ret (res2 rfl _ rfl rfl (at_set7 AX.out _ _ _ _ _ _ _)) rfl ?_
  exact bad_end2 hc AX.out HY.out KV.out
set_option maxHeartbeats 1600000 in
set_option maxRecDepth 100000 in
theorem rs5_f (d f : Int) (A cap : Nat) (x1 x2 x3 x4 : ByteArray) (c : Cm) (hc : c = bad rFmt) (lt : Bool) (hd : ¬ d < 0) (hf : f < 0) (w : World) (hx : ∀ u, Kept w u → u.cell? ⟨A, 1, none⟩ = some (.string x1) ∧ u.cell? ⟨A, 2, none⟩ = some (.string x2) ∧ u.cell? ⟨A, 3, none⟩ = some (.string x3) ∧ u.cell? ⟨A, 4, none⟩ = some (.string x4)) (hD : ∀ w, Calls Try.prog 31 #[.string x4] w fun e w' => e = .returned (.int .i64 d) ∧ w' = w) (hM : ∀ w, Calls Try.prog 22 #[.string x1] w fun e w' => e = .returned (.bool true) ∧ w' = w) (hF : ∀ w, Calls Try.prog 31 #[.string x2] w fun e w' => e = .returned (.int .i64 f) ∧ w' = w) :
    Calls Try.prog 24 #[.slice (some ⟨A, 0, none⟩) 5 cap, .bool lt] w fun e w' => ∃ kv, e = .returned (.tuple #[.agg #[.int .i64 c.kind, kv, .int .u32 c.flags, .int .i64 c.exp, .string ⟨#[]⟩, .bool c.quiet, .string c.reply], .int .i64 d]) ∧ Keys w' kv c.keys ∧ Kept w w' := by
  have hz := zero26
  have HA : Hid (At (w.alloc (.cells #[.int .i64 0, .slice none 0 0, .int .u32 0, .int .i64 0, .string ⟨#[]⟩, .bool false, .string ⟨#[]⟩] 38)) w.heap.size #[.int .i64 0, .slice none 0 0, .int .u32 0, .int .i64 0, .string ⟨#[]⟩, .bool false, .string ⟨#[]⟩] 38) := at_new _ _ _
  have HK : Hid (Kept w (w.alloc (.cells #[.int .i64 0, .slice none 0 0, .int .u32 0, .int .i64 0, .string ⟨#[]⟩, .bool false, .string ⟨#[]⟩] 38))) := kept_alloc (kept_refl w) _
  have HY : Hid (∀ (u : World) (a0 a1 a2 a3 a4 a5 a6 : Value), Kept w u → Kept w (set7 u w.heap.size a0 a1 a2 a3 a4 a5 a6)) := fun u a0 a1 a2 a3 a4 a5 a6 h => kept_set7 h (Nat.le_refl _) _ _ _ _ _ _ _
  have HX := hid hx
  have HD := hid hD
  have HM := hid hM
  have HF := hid hF
  clear hx hD hM hF
  go_enter Try.func24, Try.ntmps24
  go_wp2_with fail
  generalize w.alloc (.cells #[.int .i64 0, .slice none 0 0, .int .u32 0, .int .i64 0, .string ⟨#[]⟩, .bool false, .string ⟨#[]⟩] 38) = wa at *
  generalize w.heap.size = X at *
  refine (Bad_fmt _).mono ?_
  rintro e w2 ⟨rfl, hk2⟩
  have AX := hid (at_alloc (at_kept HA.out hk2) (.cells #[.int .i64 8, .slice none 0 0, .int .u32 0, .int .i64 0, .string ⟨#[]⟩, .bool false, .string rFmt] 38))
  have AY := hid (at_new w2 #[.int .i64 8, .slice none 0 0, .int .u32 0, .int .i64 0, .string ⟨#[]⟩, .bool false, .string rFmt] 38)
  have KV := hid (kept_alloc (kept_trans HK.out hk2) (.cells #[.int .i64 8, .slice none 0 0, .int .u32 0, .int .i64 0, .string ⟨#[]⟩, .bool false, .string rFmt] 38))
  clear hk2 HA HK
  obtain ⟨hx1, hx2, hx3, hx4⟩ := HX.out _ KV.out
  go_wp2_with fail
  generalize w2.alloc (.cells #[.int .i64 8, .slice none 0 0, .int .u32 0, .int .i64 0, .string ⟨#[]⟩, .bool false, .string rFmt] 38) = v at *
  generalize w2.heap.size = Y at *
  obtain ⟨y0, y1, y2, y3, y4, y5, y6, -⟩ := at_cells7 AY.out
  obtain ⟨c0, c1, c2, c3, c4, c5, c6, fr⟩ := at_cells7 AX.out
  refine (HD.out _).mono ?_
  rintro e u1 ⟨rfl, hu⟩
  rw [hu]; clear hu u1
  go_wp2_with fail
  refine (HM.out _).mono ?_
  rintro e u1 ⟨rfl, hu⟩
  rw [hu]; clear hu u1
  go_wp2_with fail
  refine (HF.out _).mono ?_
  rintro e u1 ⟨rfl, hu⟩
  rw [hu]; clear hu u1
  go_wp2_with fail
  refine bodyPost_ret (res2 rfl _ rfl rfl (at_set7 AX.out _ _ _ _ _ _ _)) rfl ?_
  exact bad_end2 hc AX.out HY.out KV.out
set_option maxHeartbeats 1600000 in
set_option maxRecDepth 100000 in
theorem rs5_t (d f t : Int) (A cap : Nat) (x1 x2 x3 x4 : ByteArray) (c : Cm) (hc : c = bad rFmt) (lt : Bool) (hd : ¬ d < 0) (hf : ¬ f < 0) (w : World) (hx : ∀ u, Kept w u → u.cell? ⟨A, 1, none⟩ = some (.string x1) ∧ u.cell? ⟨A, 2, none⟩ = some (.string x2) ∧ u.cell? ⟨A, 3, none⟩ = some (.string x3) ∧ u.cell? ⟨A, 4, none⟩ = some (.string x4)) (hD : ∀ w, Calls Try.prog 31 #[.string x4] w fun e w' => e = .returned (.int .i64 d) ∧ w' = w) (hM : ∀ w, Calls Try.prog 22 #[.string x1] w fun e w' => e = .returned (.bool true) ∧ w' = w) (hF : ∀ w, Calls Try.prog 31 #[.string x2] w fun e w' => e = .returned (.int .i64 f) ∧ w' = w) (hT : ∀ w, Calls Try.prog 23 #[.string x3] w fun e w' => e = .returned (.tuple #[.int .i64 t, .bool false]) ∧ w' = w) :
    Calls Try.prog 24 #[.slice (some ⟨A, 0, none⟩) 5 cap, .bool lt] w fun e w' => ∃ kv, e = .returned (.tuple #[.agg #[.int .i64 c.kind, kv, .int .u32 c.flags, .int .i64 c.exp, .string ⟨#[]⟩, .bool c.quiet, .string c.reply], .int .i64 d]) ∧ Keys w' kv c.keys ∧ Kept w w' := by
  have hz := zero26
  have HA : Hid (At (w.alloc (.cells #[.int .i64 0, .slice none 0 0, .int .u32 0, .int .i64 0, .string ⟨#[]⟩, .bool false, .string ⟨#[]⟩] 38)) w.heap.size #[.int .i64 0, .slice none 0 0, .int .u32 0, .int .i64 0, .string ⟨#[]⟩, .bool false, .string ⟨#[]⟩] 38) := at_new _ _ _
  have HK : Hid (Kept w (w.alloc (.cells #[.int .i64 0, .slice none 0 0, .int .u32 0, .int .i64 0, .string ⟨#[]⟩, .bool false, .string ⟨#[]⟩] 38))) := kept_alloc (kept_refl w) _
  have HY : Hid (∀ (u : World) (a0 a1 a2 a3 a4 a5 a6 : Value), Kept w u → Kept w (set7 u w.heap.size a0 a1 a2 a3 a4 a5 a6)) := fun u a0 a1 a2 a3 a4 a5 a6 h => kept_set7 h (Nat.le_refl _) _ _ _ _ _ _ _
  have HX := hid hx
  have HD := hid hD
  have HM := hid hM
  have HF := hid hF
  have HT := hid hT
  clear hx hD hM hF hT
  go_enter Try.func24, Try.ntmps24
  go_wp2_with fail
  generalize w.alloc (.cells #[.int .i64 0, .slice none 0 0, .int .u32 0, .int .i64 0, .string ⟨#[]⟩, .bool false, .string ⟨#[]⟩] 38) = wa at *
  generalize w.heap.size = X at *
  refine (Bad_fmt _).mono ?_
  rintro e w2 ⟨rfl, hk2⟩
  have AX := hid (at_alloc (at_kept HA.out hk2) (.cells #[.int .i64 8, .slice none 0 0, .int .u32 0, .int .i64 0, .string ⟨#[]⟩, .bool false, .string rFmt] 38))
  have AY := hid (at_new w2 #[.int .i64 8, .slice none 0 0, .int .u32 0, .int .i64 0, .string ⟨#[]⟩, .bool false, .string rFmt] 38)
  have KV := hid (kept_alloc (kept_trans HK.out hk2) (.cells #[.int .i64 8, .slice none 0 0, .int .u32 0, .int .i64 0, .string ⟨#[]⟩, .bool false, .string rFmt] 38))
  clear hk2 HA HK
  obtain ⟨hx1, hx2, hx3, hx4⟩ := HX.out _ KV.out
  go_wp2_with fail
  generalize w2.alloc (.cells #[.int .i64 8, .slice none 0 0, .int .u32 0, .int .i64 0, .string ⟨#[]⟩, .bool false, .string rFmt] 38) = v at *
  generalize w2.heap.size = Y at *
  obtain ⟨y0, y1, y2, y3, y4, y5, y6, -⟩ := at_cells7 AY.out
  obtain ⟨c0, c1, c2, c3, c4, c5, c6, fr⟩ := at_cells7 AX.out
  refine (HD.out _).mono ?_
  rintro e u1 ⟨rfl, hu⟩
  rw [hu]; clear hu u1
  go_wp2_with fail
  refine (HM.out _).mono ?_
  rintro e u1 ⟨rfl, hu⟩
  rw [hu]; clear hu u1
  go_wp2_with fail
  refine (HF.out _).mono ?_
  rintro e u1 ⟨rfl, hu⟩
  rw [hu]; clear hu u1
  go_wp2_with fail
  refine (HT.out _).mono ?_
  rintro e u1 ⟨rfl, hu⟩
  rw [hu]; clear hu u1
  go_wp2_with fail
  refine bodyPost_ret (res2 rfl _ rfl rfl (at_set7 AX.out _ _ _ _ _ _ _)) rfl ?_
  exact bad_end2 hc AX.out HY.out KV.out
set_option maxHeartbeats 1600000 in
set_option maxRecDepth 100000 in
theorem rs5_b (d f t : Int) (A cap : Nat) (x1 x2 x3 x4 : ByteArray) (c : Cm) (hc : c = bad rBig) (lt : Bool) (hd : ¬ d < 0) (hf : ¬ f < 0) (hbig : 1024 < d) (w : World) (hx : ∀ u, Kept w u → u.cell? ⟨A, 1, none⟩ = some (.string x1) ∧ u.cell? ⟨A, 2, none⟩ = some (.string x2) ∧ u.cell? ⟨A, 3, none⟩ = some (.string x3) ∧ u.cell? ⟨A, 4, none⟩ = some (.string x4)) (hD : ∀ w, Calls Try.prog 31 #[.string x4] w fun e w' => e = .returned (.int .i64 d) ∧ w' = w) (hM : ∀ w, Calls Try.prog 22 #[.string x1] w fun e w' => e = .returned (.bool true) ∧ w' = w) (hF : ∀ w, Calls Try.prog 31 #[.string x2] w fun e w' => e = .returned (.int .i64 f) ∧ w' = w) (hT : ∀ w, Calls Try.prog 23 #[.string x3] w fun e w' => e = .returned (.tuple #[.int .i64 t, .bool true]) ∧ w' = w) :
    Calls Try.prog 24 #[.slice (some ⟨A, 0, none⟩) 5 cap, .bool lt] w fun e w' => ∃ kv, e = .returned (.tuple #[.agg #[.int .i64 c.kind, kv, .int .u32 c.flags, .int .i64 c.exp, .string ⟨#[]⟩, .bool c.quiet, .string c.reply], .int .i64 d]) ∧ Keys w' kv c.keys ∧ Kept w w' := by
  have hz := zero26
  have HA : Hid (At (w.alloc (.cells #[.int .i64 0, .slice none 0 0, .int .u32 0, .int .i64 0, .string ⟨#[]⟩, .bool false, .string ⟨#[]⟩] 38)) w.heap.size #[.int .i64 0, .slice none 0 0, .int .u32 0, .int .i64 0, .string ⟨#[]⟩, .bool false, .string ⟨#[]⟩] 38) := at_new _ _ _
  have HK : Hid (Kept w (w.alloc (.cells #[.int .i64 0, .slice none 0 0, .int .u32 0, .int .i64 0, .string ⟨#[]⟩, .bool false, .string ⟨#[]⟩] 38))) := kept_alloc (kept_refl w) _
  have HY : Hid (∀ (u : World) (a0 a1 a2 a3 a4 a5 a6 : Value), Kept w u → Kept w (set7 u w.heap.size a0 a1 a2 a3 a4 a5 a6)) := fun u a0 a1 a2 a3 a4 a5 a6 h => kept_set7 h (Nat.le_refl _) _ _ _ _ _ _ _
  have HX := hid hx
  have HD := hid hD
  have HM := hid hM
  have HF := hid hF
  have HT := hid hT
  clear hx hD hM hF hT
  go_enter Try.func24, Try.ntmps24
  go_wp2_with fail
  generalize w.alloc (.cells #[.int .i64 0, .slice none 0 0, .int .u32 0, .int .i64 0, .string ⟨#[]⟩, .bool false, .string ⟨#[]⟩] 38) = wa at *
  generalize w.heap.size = X at *
  refine (Bad_fmt _).mono ?_
  rintro e w2 ⟨rfl, hk2⟩
  have AX := hid (at_alloc (at_kept HA.out hk2) (.cells #[.int .i64 8, .slice none 0 0, .int .u32 0, .int .i64 0, .string ⟨#[]⟩, .bool false, .string rFmt] 38))
  have AY := hid (at_new w2 #[.int .i64 8, .slice none 0 0, .int .u32 0, .int .i64 0, .string ⟨#[]⟩, .bool false, .string rFmt] 38)
  have KV := hid (kept_alloc (kept_trans HK.out hk2) (.cells #[.int .i64 8, .slice none 0 0, .int .u32 0, .int .i64 0, .string ⟨#[]⟩, .bool false, .string rFmt] 38))
  clear hk2 HA HK
  obtain ⟨hx1, hx2, hx3, hx4⟩ := HX.out _ KV.out
  go_wp2_with fail
  generalize w2.alloc (.cells #[.int .i64 8, .slice none 0 0, .int .u32 0, .int .i64 0, .string ⟨#[]⟩, .bool false, .string rFmt] 38) = v at *
  generalize w2.heap.size = Y at *
  refine (HD.out _).mono ?_
  rintro e u1 ⟨rfl, hu⟩
  rw [hu]; clear hu u1
  go_wp2_with fail
  refine (HM.out _).mono ?_
  rintro e u1 ⟨rfl, hu⟩
  rw [hu]; clear hu u1
  go_wp2_with fail
  refine (HF.out _).mono ?_
  rintro e u1 ⟨rfl, hu⟩
  rw [hu]; clear hu u1
  go_wp2_with fail
  refine (HT.out _).mono ?_
  rintro e u1 ⟨rfl, hu⟩
  rw [hu]; clear hu u1
  go_wp2_with fail
  refine (Bad_big _).mono ?_
  rintro e w3 ⟨rfl, hk3⟩
  have AX3 := hid (at_kept AX.out hk3)
  have KV3 := hid (kept_trans KV.out hk3)
  clear hk3
  obtain ⟨c0, c1, c2, c3, c4, c5, c6, fr⟩ := at_cells7 AX3.out
  go_wp2_with fail
  refine bodyPost_ret (res2 rfl _ rfl rfl (at_set7 AX3.out _ _ _ _ _ _ _)) rfl ?_
  exact bad_end2 hc AX3.out HY.out KV3.out
set_option maxHeartbeats 1600000 in
set_option maxRecDepth 100000 in
theorem rs6_d (d : Int) (A cap : Nat) (x1 x2 x3 x4 : ByteArray) (c : Cm) (hc : c = bad rFmt) (lt : Bool) (hd : d < 0) (w : World) (hx : ∀ u, Kept w u → u.cell? ⟨A, 1, none⟩ = some (.string x1) ∧ u.cell? ⟨A, 2, none⟩ = some (.string x2) ∧ u.cell? ⟨A, 3, none⟩ = some (.string x3) ∧ u.cell? ⟨A, 4, none⟩ = some (.string x4)) (hD : ∀ w, Calls Try.prog 31 #[.string x4] w fun e w' => e = .returned (.int .i64 d) ∧ w' = w) :
    Calls Try.prog 24 #[.slice (some ⟨A, 0, none⟩) 6 cap, .bool lt] w fun e w' => ∃ kv, e = .returned (.tuple #[.agg #[.int .i64 c.kind, kv, .int .u32 c.flags, .int .i64 c.exp, .string ⟨#[]⟩, .bool c.quiet, .string c.reply], .int .i64 d]) ∧ Keys w' kv c.keys ∧ Kept w w' := by
  have hz := zero26
  have HA : Hid (At (w.alloc (.cells #[.int .i64 0, .slice none 0 0, .int .u32 0, .int .i64 0, .string ⟨#[]⟩, .bool false, .string ⟨#[]⟩] 38)) w.heap.size #[.int .i64 0, .slice none 0 0, .int .u32 0, .int .i64 0, .string ⟨#[]⟩, .bool false, .string ⟨#[]⟩] 38) := at_new _ _ _
  have HK : Hid (Kept w (w.alloc (.cells #[.int .i64 0, .slice none 0 0, .int .u32 0, .int .i64 0, .string ⟨#[]⟩, .bool false, .string ⟨#[]⟩] 38))) := kept_alloc (kept_refl w) _
  have HY : Hid (∀ (u : World) (a0 a1 a2 a3 a4 a5 a6 : Value), Kept w u → Kept w (set7 u w.heap.size a0 a1 a2 a3 a4 a5 a6)) := fun u a0 a1 a2 a3 a4 a5 a6 h => kept_set7 h (Nat.le_refl _) _ _ _ _ _ _ _
  have HX := hid hx
  have HD := hid hD
  clear hx hD
  go_enter Try.func24, Try.ntmps24
  go_wp2_with fail
  generalize w.alloc (.cells #[.int .i64 0, .slice none 0 0, .int .u32 0, .int .i64 0, .string ⟨#[]⟩, .bool false, .string ⟨#[]⟩] 38) = wa at *
  generalize w.heap.size = X at *
  refine (Bad_fmt _).mono ?_
  rintro e w2 ⟨rfl, hk2⟩
  have AX := hid (at_alloc (at_kept HA.out hk2) (.cells #[.int .i64 8, .slice none 0 0, .int .u32 0, .int .i64 0, .string ⟨#[]⟩, .bool false, .string rFmt] 38))
  have AY := hid (at_new w2 #[.int .i64 8, .slice none 0 0, .int .u32 0, .int .i64 0, .string ⟨#[]⟩, .bool false, .string rFmt] 38)
  have KV := hid (kept_alloc (kept_trans HK.out hk2) (.cells #[.int .i64 8, .slice none 0 0, .int .u32 0, .int .i64 0, .string ⟨#[]⟩, .bool false, .string rFmt] 38))
  clear hk2 HA HK
  obtain ⟨hx1, hx2, hx3, hx4⟩ := HX.out _ KV.out
  go_wp2_with fail
  generalize w2.alloc (.cells #[.int .i64 8, .slice none 0 0, .int .u32 0, .int .i64 0, .string ⟨#[]⟩, .bool false, .string rFmt] 38) = v at *
  generalize w2.heap.size = Y at *
  obtain ⟨y0, y1, y2, y3, y4, y5, y6, -⟩ := at_cells7 AY.out
  obtain ⟨c0, c1, c2, c3, c4, c5, c6, fr⟩ := at_cells7 AX.out
  refine (HD.out _).mono ?_
  rintro e u1 ⟨rfl, hu⟩
  rw [hu]; clear hu u1
  go_wp2_with fail
  refine bodyPost_ret (res2 rfl _ rfl rfl (at_set7 AX.out _ _ _ _ _ _ _)) rfl ?_
  exact bad_end2 hc AX.out HY.out KV.out
set_option maxHeartbeats 1600000 in
set_option maxRecDepth 100000 in
theorem rs6_l (d : Int) (A cap : Nat) (x1 x2 x3 x4 : ByteArray) (c : Cm) (hc : c = bad rFmt) (hd : ¬ d < 0) (w : World) (hx : ∀ u, Kept w u → u.cell? ⟨A, 1, none⟩ = some (.string x1) ∧ u.cell? ⟨A, 2, none⟩ = some (.string x2) ∧ u.cell? ⟨A, 3, none⟩ = some (.string x3) ∧ u.cell? ⟨A, 4, none⟩ = some (.string x4)) (hD : ∀ w, Calls Try.prog 31 #[.string x4] w fun e w' => e = .returned (.int .i64 d) ∧ w' = w) :
    Calls Try.prog 24 #[.slice (some ⟨A, 0, none⟩) 6 cap, .bool false] w fun e w' => ∃ kv, e = .returned (.tuple #[.agg #[.int .i64 c.kind, kv, .int .u32 c.flags, .int .i64 c.exp, .string ⟨#[]⟩, .bool c.quiet, .string c.reply], .int .i64 d]) ∧ Keys w' kv c.keys ∧ Kept w w' := by
  have hz := zero26
  have HA : Hid (At (w.alloc (.cells #[.int .i64 0, .slice none 0 0, .int .u32 0, .int .i64 0, .string ⟨#[]⟩, .bool false, .string ⟨#[]⟩] 38)) w.heap.size #[.int .i64 0, .slice none 0 0, .int .u32 0, .int .i64 0, .string ⟨#[]⟩, .bool false, .string ⟨#[]⟩] 38) := at_new _ _ _
  have HK : Hid (Kept w (w.alloc (.cells #[.int .i64 0, .slice none 0 0, .int .u32 0, .int .i64 0, .string ⟨#[]⟩, .bool false, .string ⟨#[]⟩] 38))) := kept_alloc (kept_refl w) _
  have HY : Hid (∀ (u : World) (a0 a1 a2 a3 a4 a5 a6 : Value), Kept w u → Kept w (set7 u w.heap.size a0 a1 a2 a3 a4 a5 a6)) := fun u a0 a1 a2 a3 a4 a5 a6 h => kept_set7 h (Nat.le_refl _) _ _ _ _ _ _ _
  have HX := hid hx
  have HD := hid hD
  clear hx hD
  go_enter Try.func24, Try.ntmps24
  go_wp2_with fail
  generalize w.alloc (.cells #[.int .i64 0, .slice none 0 0, .int .u32 0, .int .i64 0, .string ⟨#[]⟩, .bool false, .string ⟨#[]⟩] 38) = wa at *
  generalize w.heap.size = X at *
  refine (Bad_fmt _).mono ?_
  rintro e w2 ⟨rfl, hk2⟩
  have AX := hid (at_alloc (at_kept HA.out hk2) (.cells #[.int .i64 8, .slice none 0 0, .int .u32 0, .int .i64 0, .string ⟨#[]⟩, .bool false, .string rFmt] 38))
  have AY := hid (at_new w2 #[.int .i64 8, .slice none 0 0, .int .u32 0, .int .i64 0, .string ⟨#[]⟩, .bool false, .string rFmt] 38)
  have KV := hid (kept_alloc (kept_trans HK.out hk2) (.cells #[.int .i64 8, .slice none 0 0, .int .u32 0, .int .i64 0, .string ⟨#[]⟩, .bool false, .string rFmt] 38))
  clear hk2 HA HK
  obtain ⟨hx1, hx2, hx3, hx4⟩ := HX.out _ KV.out
  go_wp2_with fail
  generalize w2.alloc (.cells #[.int .i64 8, .slice none 0 0, .int .u32 0, .int .i64 0, .string ⟨#[]⟩, .bool false, .string rFmt] 38) = v at *
  generalize w2.heap.size = Y at *
  obtain ⟨y0, y1, y2, y3, y4, y5, y6, -⟩ := at_cells7 AY.out
  obtain ⟨c0, c1, c2, c3, c4, c5, c6, fr⟩ := at_cells7 AX.out
  refine (HD.out _).mono ?_
  rintro e u1 ⟨rfl, hu⟩
  rw [hu]; clear hu u1
  go_wp2_with fail
  refine bodyPost_ret (res2 rfl _ rfl rfl (at_set7 AX.out _ _ _ _ _ _ _)) rfl ?_
  exact bad_end2 hc AX.out HY.out KV.out
set_option maxHeartbeats 1600000 in
set_option maxRecDepth 100000 in
theorem rs6_k (d : Int) (A cap : Nat) (x1 x2 x3 x4 : ByteArray) (c : Cm) (hc : c = bad rFmt) (hd : ¬ d < 0) (w : World) (hx : ∀ u, Kept w u → u.cell? ⟨A, 1, none⟩ = some (.string x1) ∧ u.cell? ⟨A, 2, none⟩ = some (.string x2) ∧ u.cell? ⟨A, 3, none⟩ = some (.string x3) ∧ u.cell? ⟨A, 4, none⟩ = some (.string x4)) (hD : ∀ w, Calls Try.prog 31 #[.string x4] w fun e w' => e = .returned (.int .i64 d) ∧ w' = w) (hM : ∀ w, Calls Try.prog 22 #[.string x1] w fun e w' => e = .returned (.bool false) ∧ w' = w) :
    Calls Try.prog 24 #[.slice (some ⟨A, 0, none⟩) 6 cap, .bool true] w fun e w' => ∃ kv, e = .returned (.tuple #[.agg #[.int .i64 c.kind, kv, .int .u32 c.flags, .int .i64 c.exp, .string ⟨#[]⟩, .bool c.quiet, .string c.reply], .int .i64 d]) ∧ Keys w' kv c.keys ∧ Kept w w' := by
  have hz := zero26
  have HA : Hid (At (w.alloc (.cells #[.int .i64 0, .slice none 0 0, .int .u32 0, .int .i64 0, .string ⟨#[]⟩, .bool false, .string ⟨#[]⟩] 38)) w.heap.size #[.int .i64 0, .slice none 0 0, .int .u32 0, .int .i64 0, .string ⟨#[]⟩, .bool false, .string ⟨#[]⟩] 38) := at_new _ _ _
  have HK : Hid (Kept w (w.alloc (.cells #[.int .i64 0, .slice none 0 0, .int .u32 0, .int .i64 0, .string ⟨#[]⟩, .bool false, .string ⟨#[]⟩] 38))) := kept_alloc (kept_refl w) _
  have HY : Hid (∀ (u : World) (a0 a1 a2 a3 a4 a5 a6 : Value), Kept w u → Kept w (set7 u w.heap.size a0 a1 a2 a3 a4 a5 a6)) := fun u a0 a1 a2 a3 a4 a5 a6 h => kept_set7 h (Nat.le_refl _) _ _ _ _ _ _ _
  have HX := hid hx
  have HD := hid hD
  have HM := hid hM
  clear hx hD hM
  go_enter Try.func24, Try.ntmps24
  go_wp2_with fail
  generalize w.alloc (.cells #[.int .i64 0, .slice none 0 0, .int .u32 0, .int .i64 0, .string ⟨#[]⟩, .bool false, .string ⟨#[]⟩] 38) = wa at *
  generalize w.heap.size = X at *
  refine (Bad_fmt _).mono ?_
  rintro e w2 ⟨rfl, hk2⟩
  have AX := hid (at_alloc (at_kept HA.out hk2) (.cells #[.int .i64 8, .slice none 0 0, .int .u32 0, .int .i64 0, .string ⟨#[]⟩, .bool false, .string rFmt] 38))
  have AY := hid (at_new w2 #[.int .i64 8, .slice none 0 0, .int .u32 0, .int .i64 0, .string ⟨#[]⟩, .bool false, .string rFmt] 38)
  have KV := hid (kept_alloc (kept_trans HK.out hk2) (.cells #[.int .i64 8, .slice none 0 0, .int .u32 0, .int .i64 0, .string ⟨#[]⟩, .bool false, .string rFmt] 38))
  clear hk2 HA HK
  obtain ⟨hx1, hx2, hx3, hx4⟩ := HX.out _ KV.out
  go_wp2_with fail
  generalize w2.alloc (.cells #[.int .i64 8, .slice none 0 0, .int .u32 0, .int .i64 0, .string ⟨#[]⟩, .bool false, .string rFmt] 38) = v at *
  generalize w2.heap.size = Y at *
  obtain ⟨y0, y1, y2, y3, y4, y5, y6, -⟩ := at_cells7 AY.out
  obtain ⟨c0, c1, c2, c3, c4, c5, c6, fr⟩ := at_cells7 AX.out
  refine (HD.out _).mono ?_
  rintro e u1 ⟨rfl, hu⟩
  rw [hu]; clear hu u1
  go_wp2_with fail
  refine (HM.out _).mono ?_
  rintro e u1 ⟨rfl, hu⟩
  rw [hu]; clear hu u1
  go_wp2_with fail
  refine bodyPost_ret (res2 rfl _ rfl rfl (at_set7 AX.out _ _ _ _ _ _ _)) rfl ?_
  exact bad_end2 hc AX.out HY.out KV.out
set_option maxHeartbeats 1600000 in
set_option maxRecDepth 100000 in
theorem rs6_f (d f : Int) (A cap : Nat) (x1 x2 x3 x4 : ByteArray) (c : Cm) (hc : c = bad rFmt) (hd : ¬ d < 0) (hf : f < 0) (w : World) (hx : ∀ u, Kept w u → u.cell? ⟨A, 1, none⟩ = some (.string x1) ∧ u.cell? ⟨A, 2, none⟩ = some (.string x2) ∧ u.cell? ⟨A, 3, none⟩ = some (.string x3) ∧ u.cell? ⟨A, 4, none⟩ = some (.string x4)) (hD : ∀ w, Calls Try.prog 31 #[.string x4] w fun e w' => e = .returned (.int .i64 d) ∧ w' = w) (hM : ∀ w, Calls Try.prog 22 #[.string x1] w fun e w' => e = .returned (.bool true) ∧ w' = w) (hF : ∀ w, Calls Try.prog 31 #[.string x2] w fun e w' => e = .returned (.int .i64 f) ∧ w' = w) :
    Calls Try.prog 24 #[.slice (some ⟨A, 0, none⟩) 6 cap, .bool true] w fun e w' => ∃ kv, e = .returned (.tuple #[.agg #[.int .i64 c.kind, kv, .int .u32 c.flags, .int .i64 c.exp, .string ⟨#[]⟩, .bool c.quiet, .string c.reply], .int .i64 d]) ∧ Keys w' kv c.keys ∧ Kept w w' := by
  have hz := zero26
  have HA : Hid (At (w.alloc (.cells #[.int .i64 0, .slice none 0 0, .int .u32 0, .int .i64 0, .string ⟨#[]⟩, .bool false, .string ⟨#[]⟩] 38)) w.heap.size #[.int .i64 0, .slice none 0 0, .int .u32 0, .int .i64 0, .string ⟨#[]⟩, .bool false, .string ⟨#[]⟩] 38) := at_new _ _ _
  have HK : Hid (Kept w (w.alloc (.cells #[.int .i64 0, .slice none 0 0, .int .u32 0, .int .i64 0, .string ⟨#[]⟩, .bool false, .string ⟨#[]⟩] 38))) := kept_alloc (kept_refl w) _
  have HY : Hid (∀ (u : World) (a0 a1 a2 a3 a4 a5 a6 : Value), Kept w u → Kept w (set7 u w.heap.size a0 a1 a2 a3 a4 a5 a6)) := fun u a0 a1 a2 a3 a4 a5 a6 h => kept_set7 h (Nat.le_refl _) _ _ _ _ _ _ _
  have HX := hid hx
  have HD := hid hD
  have HM := hid hM
  have HF := hid hF
  clear hx hD hM hF
  go_enter Try.func24, Try.ntmps24
  go_wp2_with fail
  generalize w.alloc (.cells #[.int .i64 0, .slice none 0 0, .int .u32 0, .int .i64 0, .string ⟨#[]⟩, .bool false, .string ⟨#[]⟩] 38) = wa at *
  generalize w.heap.size = X at *
  refine (Bad_fmt _).mono ?_
  rintro e w2 ⟨rfl, hk2⟩
  have AX := hid (at_alloc (at_kept HA.out hk2) (.cells #[.int .i64 8, .slice none 0 0, .int .u32 0, .int .i64 0, .string ⟨#[]⟩, .bool false, .string rFmt] 38))
  have AY := hid (at_new w2 #[.int .i64 8, .slice none 0 0, .int .u32 0, .int .i64 0, .string ⟨#[]⟩, .bool false, .string rFmt] 38)
  have KV := hid (kept_alloc (kept_trans HK.out hk2) (.cells #[.int .i64 8, .slice none 0 0, .int .u32 0, .int .i64 0, .string ⟨#[]⟩, .bool false, .string rFmt] 38))
  clear hk2 HA HK
  obtain ⟨hx1, hx2, hx3, hx4⟩ := HX.out _ KV.out
  go_wp2_with fail
  generalize w2.alloc (.cells #[.int .i64 8, .slice none 0 0, .int .u32 0, .int .i64 0, .string ⟨#[]⟩, .bool false, .string rFmt] 38) = v at *
  generalize w2.heap.size = Y at *
  obtain ⟨y0, y1, y2, y3, y4, y5, y6, -⟩ := at_cells7 AY.out
  obtain ⟨c0, c1, c2, c3, c4, c5, c6, fr⟩ := at_cells7 AX.out
  refine (HD.out _).mono ?_
  rintro e u1 ⟨rfl, hu⟩
  rw [hu]; clear hu u1
  go_wp2_with fail
  refine (HM.out _).mono ?_
  rintro e u1 ⟨rfl, hu⟩
  rw [hu]; clear hu u1
  go_wp2_with fail
  refine (HF.out _).mono ?_
  rintro e u1 ⟨rfl, hu⟩
  rw [hu]; clear hu u1
  go_wp2_with fail
  refine bodyPost_ret (res2 rfl _ rfl rfl (at_set7 AX.out _ _ _ _ _ _ _)) rfl ?_
  exact bad_end2 hc AX.out HY.out KV.out
set_option maxHeartbeats 1600000 in
set_option maxRecDepth 100000 in
theorem rs6_t (d f t : Int) (A cap : Nat) (x1 x2 x3 x4 : ByteArray) (c : Cm) (hc : c = bad rFmt) (hd : ¬ d < 0) (hf : ¬ f < 0) (w : World) (hx : ∀ u, Kept w u → u.cell? ⟨A, 1, none⟩ = some (.string x1) ∧ u.cell? ⟨A, 2, none⟩ = some (.string x2) ∧ u.cell? ⟨A, 3, none⟩ = some (.string x3) ∧ u.cell? ⟨A, 4, none⟩ = some (.string x4)) (hD : ∀ w, Calls Try.prog 31 #[.string x4] w fun e w' => e = .returned (.int .i64 d) ∧ w' = w) (hM : ∀ w, Calls Try.prog 22 #[.string x1] w fun e w' => e = .returned (.bool true) ∧ w' = w) (hF : ∀ w, Calls Try.prog 31 #[.string x2] w fun e w' => e = .returned (.int .i64 f) ∧ w' = w) (hT : ∀ w, Calls Try.prog 23 #[.string x3] w fun e w' => e = .returned (.tuple #[.int .i64 t, .bool false]) ∧ w' = w) :
    Calls Try.prog 24 #[.slice (some ⟨A, 0, none⟩) 6 cap, .bool true] w fun e w' => ∃ kv, e = .returned (.tuple #[.agg #[.int .i64 c.kind, kv, .int .u32 c.flags, .int .i64 c.exp, .string ⟨#[]⟩, .bool c.quiet, .string c.reply], .int .i64 d]) ∧ Keys w' kv c.keys ∧ Kept w w' := by
  have hz := zero26
  have HA : Hid (At (w.alloc (.cells #[.int .i64 0, .slice none 0 0, .int .u32 0, .int .i64 0, .string ⟨#[]⟩, .bool false, .string ⟨#[]⟩] 38)) w.heap.size #[.int .i64 0, .slice none 0 0, .int .u32 0, .int .i64 0, .string ⟨#[]⟩, .bool false, .string ⟨#[]⟩] 38) := at_new _ _ _
  have HK : Hid (Kept w (w.alloc (.cells #[.int .i64 0, .slice none 0 0, .int .u32 0, .int .i64 0, .string ⟨#[]⟩, .bool false, .string ⟨#[]⟩] 38))) := kept_alloc (kept_refl w) _
  have HY : Hid (∀ (u : World) (a0 a1 a2 a3 a4 a5 a6 : Value), Kept w u → Kept w (set7 u w.heap.size a0 a1 a2 a3 a4 a5 a6)) := fun u a0 a1 a2 a3 a4 a5 a6 h => kept_set7 h (Nat.le_refl _) _ _ _ _ _ _ _
  have HX := hid hx
  have HD := hid hD
  have HM := hid hM
  have HF := hid hF
  have HT := hid hT
  clear hx hD hM hF hT
  go_enter Try.func24, Try.ntmps24
  go_wp2_with fail
  generalize w.alloc (.cells #[.int .i64 0, .slice none 0 0, .int .u32 0, .int .i64 0, .string ⟨#[]⟩, .bool false, .string ⟨#[]⟩] 38) = wa at *
  generalize w.heap.size = X at *
  refine (Bad_fmt _).mono ?_
  rintro e w2 ⟨rfl, hk2⟩
  have AX := hid (at_alloc (at_kept HA.out hk2) (.cells #[.int .i64 8, .slice none 0 0, .int .u32 0, .int .i64 0, .string ⟨#[]⟩, .bool false, .string rFmt] 38))
  have AY := hid (at_new w2 #[.int .i64 8, .slice none 0 0, .int .u32 0, .int .i64 0, .string ⟨#[]⟩, .bool false, .string rFmt] 38)
  have KV := hid (kept_alloc (kept_trans HK.out hk2) (.cells #[.int .i64 8, .slice none 0 0, .int .u32 0, .int .i64 0, .string ⟨#[]⟩, .bool false, .string rFmt] 38))
  clear hk2 HA HK
  obtain ⟨hx1, hx2, hx3, hx4⟩ := HX.out _ KV.out
  go_wp2_with fail
  generalize w2.alloc (.cells #[.int .i64 8, .slice none 0 0, .int .u32 0, .int .i64 0, .string ⟨#[]⟩, .bool false, .string rFmt] 38) = v at *
  generalize w2.heap.size = Y at *
  obtain ⟨y0, y1, y2, y3, y4, y5, y6, -⟩ := at_cells7 AY.out
  obtain ⟨c0, c1, c2, c3, c4, c5, c6, fr⟩ := at_cells7 AX.out
  refine (HD.out _).mono ?_
  rintro e u1 ⟨rfl, hu⟩
  rw [hu]; clear hu u1
  go_wp2_with fail
  refine (HM.out _).mono ?_
  rintro e u1 ⟨rfl, hu⟩
  rw [hu]; clear hu u1
  go_wp2_with fail
  refine (HF.out _).mono ?_
  rintro e u1 ⟨rfl, hu⟩
  rw [hu]; clear hu u1
  go_wp2_with fail
  refine (HT.out _).mono ?_
  rintro e u1 ⟨rfl, hu⟩
  rw [hu]; clear hu u1
  go_wp2_with fail
  refine bodyPost_ret (res2 rfl _ rfl rfl (at_set7 AX.out _ _ _ _ _ _ _)) rfl ?_
  exact bad_end2 hc AX.out HY.out KV.out
set_option maxHeartbeats 1600000 in
set_option maxRecDepth 100000 in
theorem rs6_b (d f t : Int) (A cap : Nat) (x1 x2 x3 x4 : ByteArray) (c : Cm) (hc : c = bad rBig) (hd : ¬ d < 0) (hf : ¬ f < 0) (hbig : 1024 < d) (w : World) (hx : ∀ u, Kept w u → u.cell? ⟨A, 1, none⟩ = some (.string x1) ∧ u.cell? ⟨A, 2, none⟩ = some (.string x2) ∧ u.cell? ⟨A, 3, none⟩ = some (.string x3) ∧ u.cell? ⟨A, 4, none⟩ = some (.string x4)) (hD : ∀ w, Calls Try.prog 31 #[.string x4] w fun e w' => e = .returned (.int .i64 d) ∧ w' = w) (hM : ∀ w, Calls Try.prog 22 #[.string x1] w fun e w' => e = .returned (.bool true) ∧ w' = w) (hF : ∀ w, Calls Try.prog 31 #[.string x2] w fun e w' => e = .returned (.int .i64 f) ∧ w' = w) (hT : ∀ w, Calls Try.prog 23 #[.string x3] w fun e w' => e = .returned (.tuple #[.int .i64 t, .bool true]) ∧ w' = w) :
    Calls Try.prog 24 #[.slice (some ⟨A, 0, none⟩) 6 cap, .bool true] w fun e w' => ∃ kv, e = .returned (.tuple #[.agg #[.int .i64 c.kind, kv, .int .u32 c.flags, .int .i64 c.exp, .string ⟨#[]⟩, .bool c.quiet, .string c.reply], .int .i64 d]) ∧ Keys w' kv c.keys ∧ Kept w w' := by
  have hz := zero26
  have HA : Hid (At (w.alloc (.cells #[.int .i64 0, .slice none 0 0, .int .u32 0, .int .i64 0, .string ⟨#[]⟩, .bool false, .string ⟨#[]⟩] 38)) w.heap.size #[.int .i64 0, .slice none 0 0, .int .u32 0, .int .i64 0, .string ⟨#[]⟩, .bool false, .string ⟨#[]⟩] 38) := at_new _ _ _
  have HK : Hid (Kept w (w.alloc (.cells #[.int .i64 0, .slice none 0 0, .int .u32 0, .int .i64 0, .string ⟨#[]⟩, .bool false, .string ⟨#[]⟩] 38))) := kept_alloc (kept_refl w) _
  have HY : Hid (∀ (u : World) (a0 a1 a2 a3 a4 a5 a6 : Value), Kept w u → Kept w (set7 u w.heap.size a0 a1 a2 a3 a4 a5 a6)) := fun u a0 a1 a2 a3 a4 a5 a6 h => kept_set7 h (Nat.le_refl _) _ _ _ _ _ _ _
  have HX := hid hx
  have HD := hid hD
  have HM := hid hM
  have HF := hid hF
  have HT := hid hT
  clear hx hD hM hF hT
  go_enter Try.func24, Try.ntmps24
  go_wp2_with fail
  generalize w.alloc (.cells #[.int .i64 0, .slice none 0 0, .int .u32 0, .int .i64 0, .string ⟨#[]⟩, .bool false, .string ⟨#[]⟩] 38) = wa at *
  generalize w.heap.size = X at *
  refine (Bad_fmt _).mono ?_
  rintro e w2 ⟨rfl, hk2⟩
  have AX := hid (at_alloc (at_kept HA.out hk2) (.cells #[.int .i64 8, .slice none 0 0, .int .u32 0, .int .i64 0, .string ⟨#[]⟩, .bool false, .string rFmt] 38))
  have AY := hid (at_new w2 #[.int .i64 8, .slice none 0 0, .int .u32 0, .int .i64 0, .string ⟨#[]⟩, .bool false, .string rFmt] 38)
  have KV := hid (kept_alloc (kept_trans HK.out hk2) (.cells #[.int .i64 8, .slice none 0 0, .int .u32 0, .int .i64 0, .string ⟨#[]⟩, .bool false, .string rFmt] 38))
  clear hk2 HA HK
  obtain ⟨hx1, hx2, hx3, hx4⟩ := HX.out _ KV.out
  go_wp2_with fail
  generalize w2.alloc (.cells #[.int .i64 8, .slice none 0 0, .int .u32 0, .int .i64 0, .string ⟨#[]⟩, .bool false, .string rFmt] 38) = v at *
  generalize w2.heap.size = Y at *
  refine (HD.out _).mono ?_
  rintro e u1 ⟨rfl, hu⟩
  rw [hu]; clear hu u1
  go_wp2_with fail
  refine (HM.out _).mono ?_
  rintro e u1 ⟨rfl, hu⟩
  rw [hu]; clear hu u1
  go_wp2_with fail
  refine (HF.out _).mono ?_
  rintro e u1 ⟨rfl, hu⟩
  rw [hu]; clear hu u1
  go_wp2_with fail
  refine (HT.out _).mono ?_
  rintro e u1 ⟨rfl, hu⟩
  rw [hu]; clear hu u1
  go_wp2_with fail
  refine (Bad_big _).mono ?_
  rintro e w3 ⟨rfl, hk3⟩
  have AX3 := hid (at_kept AX.out hk3)
  have KV3 := hid (kept_trans KV.out hk3)
  clear hk3
  obtain ⟨c0, c1, c2, c3, c4, c5, c6, fr⟩ := at_cells7 AX3.out
  go_wp2_with fail
  refine bodyPost_ret (res2 rfl _ rfl rfl (at_set7 AX3.out _ _ _ _ _ _ _)) rfl ?_
  exact bad_end2 hc AX3.out HY.out KV3.out
end Go.Proofs.Ytjlojkcdglocbaa
