/- The contract of the function that reads an item's first line. A line has at most 1,000 bytes. -/
import Derived.Test.YtlbpmehlfihpbaaDoorNum
import Derived.Test.YtlbpmehlfihpbaaDoorCut
namespace Go.Proofs.YtlbpmehlfihpbaaDoor
open Go.ChangeShapes Go.WideShapes Go.ChangeAt Go.RowKit
set_option linter.unusedVariables false
set_option linter.unusedSimpArgs false

def firstV (o : Option (List UInt8 × Nat × Nat)) : Value := match o with
  | some (k, f, n) => .tuple #[.agg #[.string ⟨k.toArray⟩, .int .u64 0, .int .u32 0, .int .u8 0, .int .u8 3, .int .u32 (f : Int), .int .u64 0, .string ⟨#[]⟩], .int .i64 (n : Int), .bool true]
  | none => .tuple #[.agg #[.string ⟨#[]⟩, .int .u64 0, .int .u32 0, .int .u8 0, .int .u8 0, .int .u32 0, .int .u64 0, .string ⟨#[]⟩], .int .i64 0, .bool false]
theorem firstV_some (b : ByteArray) (f n : Nat) : firstV (some (b.data.toList, f, n)) = .tuple #[.agg #[.string b, .int .u64 0, .int .u32 0, .int .u8 0, .int .u8 3, .int .u32 (f : Int), .int .u64 0, .string ⟨#[]⟩], .int .i64 (n : Int), .bool true] := by
  simp only [firstV, mk_eq]
theorem list4 {α : Type} {l : List α} (h : l.length = 4) : ∃ a b c d, l = [a, b, c, d] := by
  match l, h with
  | [a, b, c, d], _ => exact ⟨a, b, c, d, rfl⟩
theorem split_any (s : ByteArray) (hs : s.size ≤ 1000) (w : World) (hB : Base w) :
    Calls Tryd.prog 41 #[.string s, .string ⟨#[32]⟩] w fun e w' => ∃ Z, e = .returned (.slice (some ⟨Z, 0, none⟩) (Lib.splitB ⟨#[32]⟩ 0 (Lib.countB s ⟨#[32]⟩) s).length (Lib.splitB ⟨#[32]⟩ 0 (Lib.countB s ⟨#[32]⟩) s).length) ∧ At w' Z ((Lib.splitB ⟨#[32]⟩ 0 (Lib.countB s ⟨#[32]⟩) s).map Value.string).toArray 9 ∧ w.heap.size ≤ Z ∧ Kept w w' := by
  obtain ⟨m, hm⟩ := hB.most
  refine (lib_Split s ⟨#[32]⟩ m w (by omega) hm (by simp [ByteArray.size])).mono ?_
  rintro e w' ⟨he, hw⟩
  rw [Lib.splitB_all ⟨#[32]⟩ (by simp [ByteArray.size]) 0 _ s rfl]
  subst hw
  exact ⟨w.heap.size, he, at_new _ _ _, Nat.le_refl _, kept_alloc (kept_refl w) _⟩
theorem lit_yes {a : ByteArray} (h : a = ⟨#[86, 65, 76, 85, 69]⟩) : (!a.toList == [86, 65, 76, 85, 69]) = false := by
  subst h
  rw [ByteArray.toList_eq]
  rfl
theorem lit_no {a : ByteArray} (h : ¬ a = ⟨#[86, 65, 76, 85, 69]⟩) : (!a.toList == [86, 65, 76, 85, 69]) = true := by
  rw [ByteArray.toList_eq, Bool.not_eq_true', beq_eq_false_iff_ne]
  exact fun e => h (bytes_ext e)
set_option maxHeartbeats 1600000 in
set_option maxRecDepth 100000 in
theorem first_a (s l : ByteArray) (t : Bool) (q : List ByteArray) (w : World) (hB : Base w)
    (hC : ∀ u, Calls Tryd.prog 40 #[.string l, .string ⟨#[13, 10]⟩] u fun e w' => e = .returned (.tuple #[.string s, .bool t]) ∧ w' = u)
    (hS : ∀ u, Base u → Calls Tryd.prog 41 #[.string s, .string ⟨#[32]⟩] u fun e w' => ∃ Z, e = .returned (.slice (some ⟨Z, 0, none⟩) q.length q.length) ∧ At w' Z (q.map Value.string).toArray 9 ∧ u.heap.size ≤ Z ∧ Kept u w') (ht : t = false) :
    Calls Tryd.prog 33 #[.string l] w fun e w' => e = .returned (firstV none) ∧ Kept w w' := by
  have hz := zero45
  have HA := hid (at_new w #[.string ⟨#[]⟩, .int .u64 0, .int .u32 0, .int .u8 0, .int .u8 0, .int .u32 0, .int .u64 0, .string ⟨#[]⟩] 45)
  have HK := hid (kept_alloc (kept_refl w) (.cells #[.string ⟨#[]⟩, .int .u64 0, .int .u32 0, .int .u8 0, .int .u8 0, .int .u32 0, .int .u64 0, .string ⟨#[]⟩] 45))
  have HY : Hid (∀ (u : World) (a0 a1 a2 a3 a4 a5 a6 a7 : Value), Kept w u → Kept w (set8 u w.heap.size a0 a1 a2 a3 a4 a5 a6 a7)) := fun u a0 a1 a2 a3 a4 a5 a6 a7 h => kept_set8 h (Nat.le_refl _) _ _ _ _ _ _ _ _
  have HB := hid hB
  subst ht
  go_enter Tryd.func33, Tryd.ntmps33
  go_wp2_with fail
  generalize w.alloc (.cells #[.string ⟨#[]⟩, .int .u64 0, .int .u32 0, .int .u8 0, .int .u8 0, .int .u32 0, .int .u64 0, .string ⟨#[]⟩] 45) = wa at *
  generalize w.heap.size = X at *
  refine (hC wa).mono ?_
  rintro e w1 ⟨rfl, hw⟩
  rw [hw]; clear hw w1 hC
  go_wp2_with fail
  refine (hS wa (base_kept HB.out HK.out)).mono ?_
  rintro e w1 ⟨Z, rfl, hZ, hZX, hk1⟩
  have HZ := hid hZ
  have HA1 := hid (at_kept HA.out hk1)
  have HK1 := hid (kept_trans HK.out hk1)
  clear hS hk1 HA HK hZ hZX
  obtain ⟨c0, c1, c2, c3, c4, c5, c6, c7, fr⟩ := at_cells8 HA1.out
  go_wp2_with fail
  refine bodyPost_ret (res3 rfl _ rfl rfl rfl (at_set8 HA1.out _ _ _ _ _ _ _ _)) rfl ?_
  exact ⟨rfl, HY.out _ _ _ _ _ _ _ _ _ HK1.out⟩
set_option maxHeartbeats 1600000 in
set_option maxRecDepth 100000 in
theorem first_b (s l : ByteArray) (t : Bool) (q : List ByteArray) (w : World) (hB : Base w)
    (hC : ∀ u, Calls Tryd.prog 40 #[.string l, .string ⟨#[13, 10]⟩] u fun e w' => e = .returned (.tuple #[.string s, .bool t]) ∧ w' = u)
    (hS : ∀ u, Base u → Calls Tryd.prog 41 #[.string s, .string ⟨#[32]⟩] u fun e w' => ∃ Z, e = .returned (.slice (some ⟨Z, 0, none⟩) q.length q.length) ∧ At w' Z (q.map Value.string).toArray 9 ∧ u.heap.size ≤ Z ∧ Kept u w') (ht : t = true) (hn : ¬ q.length = 4) :
    Calls Tryd.prog 33 #[.string l] w fun e w' => e = .returned (firstV none) ∧ Kept w w' := by
  have hz := zero45
  have HA := hid (at_new w #[.string ⟨#[]⟩, .int .u64 0, .int .u32 0, .int .u8 0, .int .u8 0, .int .u32 0, .int .u64 0, .string ⟨#[]⟩] 45)
  have HK := hid (kept_alloc (kept_refl w) (.cells #[.string ⟨#[]⟩, .int .u64 0, .int .u32 0, .int .u8 0, .int .u8 0, .int .u32 0, .int .u64 0, .string ⟨#[]⟩] 45))
  have HY : Hid (∀ (u : World) (a0 a1 a2 a3 a4 a5 a6 a7 : Value), Kept w u → Kept w (set8 u w.heap.size a0 a1 a2 a3 a4 a5 a6 a7)) := fun u a0 a1 a2 a3 a4 a5 a6 a7 h => kept_set8 h (Nat.le_refl _) _ _ _ _ _ _ _ _
  have HB := hid hB
  subst ht
  go_enter Tryd.func33, Tryd.ntmps33
  go_wp2_with fail
  generalize w.alloc (.cells #[.string ⟨#[]⟩, .int .u64 0, .int .u32 0, .int .u8 0, .int .u8 0, .int .u32 0, .int .u64 0, .string ⟨#[]⟩] 45) = wa at *
  generalize w.heap.size = X at *
  refine (hC wa).mono ?_
  rintro e w1 ⟨rfl, hw⟩
  rw [hw]; clear hw w1 hC
  go_wp2_with fail
  refine (hS wa (base_kept HB.out HK.out)).mono ?_
  rintro e w1 ⟨Z, rfl, hZ, hZX, hk1⟩
  have HZ := hid hZ
  have HA1 := hid (at_kept HA.out hk1)
  have HK1 := hid (kept_trans HK.out hk1)
  clear hS hk1 HA HK hZ hZX
  generalize q.length = n at *
  have hn1 : ((n : Int) == 4) = false := by simp; omega
  have hn2 : ((n : Int) != 4) = true := by simp; omega
  clear hn
  obtain ⟨c0, c1, c2, c3, c4, c5, c6, c7, fr⟩ := at_cells8 HA1.out
  go_wp2_with fail
  refine bodyPost_ret (res3 rfl _ rfl rfl rfl (at_set8 HA1.out _ _ _ _ _ _ _ _)) rfl ?_
  exact ⟨rfl, HY.out _ _ _ _ _ _ _ _ _ HK1.out⟩
set_option maxHeartbeats 1600000 in
set_option maxRecDepth 100000 in
theorem first_c (s l : ByteArray) (t : Bool) (q : List ByteArray) (w : World) (hB : Base w)
    (hC : ∀ u, Calls Tryd.prog 40 #[.string l, .string ⟨#[13, 10]⟩] u fun e w' => e = .returned (.tuple #[.string s, .bool t]) ∧ w' = u)
    (hS : ∀ u, Base u → Calls Tryd.prog 41 #[.string s, .string ⟨#[32]⟩] u fun e w' => ∃ Z, e = .returned (.slice (some ⟨Z, 0, none⟩) q.length q.length) ∧ At w' Z (q.map Value.string).toArray 9 ∧ u.heap.size ≤ Z ∧ Kept u w') (ht : t = true) (a b c d : ByteArray) (hq : q = [a, b, c, d]) (ha : ¬ a = ⟨#[86, 65, 76, 85, 69]⟩) :
    Calls Tryd.prog 33 #[.string l] w fun e w' => e = .returned (firstV none) ∧ Kept w w' := by
  have hz := zero45
  have HA := hid (at_new w #[.string ⟨#[]⟩, .int .u64 0, .int .u32 0, .int .u8 0, .int .u8 0, .int .u32 0, .int .u64 0, .string ⟨#[]⟩] 45)
  have HK := hid (kept_alloc (kept_refl w) (.cells #[.string ⟨#[]⟩, .int .u64 0, .int .u32 0, .int .u8 0, .int .u8 0, .int .u32 0, .int .u64 0, .string ⟨#[]⟩] 45))
  have HY : Hid (∀ (u : World) (a0 a1 a2 a3 a4 a5 a6 a7 : Value), Kept w u → Kept w (set8 u w.heap.size a0 a1 a2 a3 a4 a5 a6 a7)) := fun u a0 a1 a2 a3 a4 a5 a6 a7 h => kept_set8 h (Nat.le_refl _) _ _ _ _ _ _ _ _
  have HB := hid hB
  subst ht hq
  go_enter Tryd.func33, Tryd.ntmps33
  go_wp2_with fail
  generalize w.alloc (.cells #[.string ⟨#[]⟩, .int .u64 0, .int .u32 0, .int .u8 0, .int .u8 0, .int .u32 0, .int .u64 0, .string ⟨#[]⟩] 45) = wa at *
  generalize w.heap.size = X at *
  refine (hC wa).mono ?_
  rintro e w1 ⟨rfl, hw⟩
  rw [hw]; clear hw w1 hC
  go_wp2_with fail
  refine (hS wa (base_kept HB.out HK.out)).mono ?_
  rintro e w1 ⟨Z, rfl, hZ, hZX, hk1⟩
  have HZ := hid hZ
  have HA1 := hid (at_kept HA.out hk1)
  have HK1 := hid (kept_trans HK.out hk1)
  clear hS hk1 HA HK hZ hZX
  have z0 : w1.cell? ⟨Z, 0, none⟩ = some (.string a) := at_cell HZ.out 0
  have z1 : w1.cell? ⟨Z, 1, none⟩ = some (.string b) := at_cell HZ.out 1
  have z2 : w1.cell? ⟨Z, 2, none⟩ = some (.string c) := at_cell HZ.out 2
  have z3 : w1.cell? ⟨Z, 3, none⟩ = some (.string d) := at_cell HZ.out 3
  have hne := lit_no ha
  clear ha HZ
  obtain ⟨c0, c1, c2, c3, c4, c5, c6, c7, fr⟩ := at_cells8 HA1.out
  go_wp2_with fail
  refine bodyPost_ret (res3 rfl _ rfl rfl rfl (at_set8 HA1.out _ _ _ _ _ _ _ _)) rfl ?_
  exact ⟨rfl, HY.out _ _ _ _ _ _ _ _ _ HK1.out⟩
set_option maxHeartbeats 1600000 in
set_option maxRecDepth 100000 in
theorem first_d (s l : ByteArray) (t : Bool) (q : List ByteArray) (w : World) (hB : Base w)
    (hC : ∀ u, Calls Tryd.prog 40 #[.string l, .string ⟨#[13, 10]⟩] u fun e w' => e = .returned (.tuple #[.string s, .bool t]) ∧ w' = u)
    (hS : ∀ u, Base u → Calls Tryd.prog 41 #[.string s, .string ⟨#[32]⟩] u fun e w' => ∃ Z, e = .returned (.slice (some ⟨Z, 0, none⟩) q.length q.length) ∧ At w' Z (q.map Value.string).toArray 9 ∧ u.heap.size ≤ Z ∧ Kept u w') (ht : t = true) (a b c d : ByteArray) (hq : q = [a, b, c, d]) (ha : a = ⟨#[86, 65, 76, 85, 69]⟩) (hk : ∀ u, Calls Tryd.prog 42 #[.string b] u fun e w' => e = .returned (.bool false) ∧ w' = u) :
    Calls Tryd.prog 33 #[.string l] w fun e w' => e = .returned (firstV none) ∧ Kept w w' := by
  have hz := zero45
  have HA := hid (at_new w #[.string ⟨#[]⟩, .int .u64 0, .int .u32 0, .int .u8 0, .int .u8 0, .int .u32 0, .int .u64 0, .string ⟨#[]⟩] 45)
  have HK := hid (kept_alloc (kept_refl w) (.cells #[.string ⟨#[]⟩, .int .u64 0, .int .u32 0, .int .u8 0, .int .u8 0, .int .u32 0, .int .u64 0, .string ⟨#[]⟩] 45))
  have HY : Hid (∀ (u : World) (a0 a1 a2 a3 a4 a5 a6 a7 : Value), Kept w u → Kept w (set8 u w.heap.size a0 a1 a2 a3 a4 a5 a6 a7)) := fun u a0 a1 a2 a3 a4 a5 a6 a7 h => kept_set8 h (Nat.le_refl _) _ _ _ _ _ _ _ _
  have HB := hid hB
  subst ht hq
  have hne := lit_yes ha
  clear ha
  go_enter Tryd.func33, Tryd.ntmps33
  go_wp2_with fail
  generalize w.alloc (.cells #[.string ⟨#[]⟩, .int .u64 0, .int .u32 0, .int .u8 0, .int .u8 0, .int .u32 0, .int .u64 0, .string ⟨#[]⟩] 45) = wa at *
  generalize w.heap.size = X at *
  refine (hC wa).mono ?_
  rintro e w1 ⟨rfl, hw⟩
  rw [hw]; clear hw w1 hC
  go_wp2_with fail
  refine (hS wa (base_kept HB.out HK.out)).mono ?_
  rintro e w1 ⟨Z, rfl, hZ, hZX, hk1⟩
  have HZ := hid hZ
  have HA1 := hid (at_kept HA.out hk1)
  have HK1 := hid (kept_trans HK.out hk1)
  clear hS hk1 HA HK hZ hZX
  have z0 : w1.cell? ⟨Z, 0, none⟩ = some (.string a) := at_cell HZ.out 0
  have z1 : w1.cell? ⟨Z, 1, none⟩ = some (.string b) := at_cell HZ.out 1
  have z2 : w1.cell? ⟨Z, 2, none⟩ = some (.string c) := at_cell HZ.out 2
  have z3 : w1.cell? ⟨Z, 3, none⟩ = some (.string d) := at_cell HZ.out 3
  clear HZ
  go_wp2_with fail
  refine (hk w1).mono ?_
  rintro e w2 ⟨rfl, hw⟩
  rw [hw]; clear hw w2 hk z0 z1 z2 z3
  obtain ⟨c0, c1, c2, c3, c4, c5, c6, c7, fr⟩ := at_cells8 HA1.out
  go_wp2_with fail
  refine bodyPost_ret (res3 rfl _ rfl rfl rfl (at_set8 HA1.out _ _ _ _ _ _ _ _)) rfl ?_
  exact ⟨rfl, HY.out _ _ _ _ _ _ _ _ _ HK1.out⟩
set_option maxHeartbeats 1600000 in
set_option maxRecDepth 100000 in
theorem first_e (s l : ByteArray) (t : Bool) (q : List ByteArray) (w : World) (hB : Base w)
    (hC : ∀ u, Calls Tryd.prog 40 #[.string l, .string ⟨#[13, 10]⟩] u fun e w' => e = .returned (.tuple #[.string s, .bool t]) ∧ w' = u)
    (hS : ∀ u, Base u → Calls Tryd.prog 41 #[.string s, .string ⟨#[32]⟩] u fun e w' => ∃ Z, e = .returned (.slice (some ⟨Z, 0, none⟩) q.length q.length) ∧ At w' Z (q.map Value.string).toArray 9 ∧ u.heap.size ≤ Z ∧ Kept u w') (ht : t = true) (a b c d : ByteArray) (hq : q = [a, b, c, d]) (ha : a = ⟨#[86, 65, 76, 85, 69]⟩) (gv : Int) (gb : Bool) (hk : ∀ u, Calls Tryd.prog 42 #[.string b] u fun e w' => e = .returned (.bool true) ∧ w' = u) (hf : ∀ u, Base u → Calls Tryd.prog 43 #[.string c, .int .u64 4294967295] u fun e w' => e = .returned (.tuple #[.int .u64 0, .bool false]) ∧ Kept u w') (hg : ∀ u, Base u → Calls Tryd.prog 43 #[.string d, .int .u64 1024] u fun e w' => e = .returned (.tuple #[.int .u64 gv, .bool gb]) ∧ Kept u w') :
    Calls Tryd.prog 33 #[.string l] w fun e w' => e = .returned (firstV none) ∧ Kept w w' := by
  have hz := zero45
  have HA := hid (at_new w #[.string ⟨#[]⟩, .int .u64 0, .int .u32 0, .int .u8 0, .int .u8 0, .int .u32 0, .int .u64 0, .string ⟨#[]⟩] 45)
  have HK := hid (kept_alloc (kept_refl w) (.cells #[.string ⟨#[]⟩, .int .u64 0, .int .u32 0, .int .u8 0, .int .u8 0, .int .u32 0, .int .u64 0, .string ⟨#[]⟩] 45))
  have HY : Hid (∀ (u : World) (a0 a1 a2 a3 a4 a5 a6 a7 : Value), Kept w u → Kept w (set8 u w.heap.size a0 a1 a2 a3 a4 a5 a6 a7)) := fun u a0 a1 a2 a3 a4 a5 a6 a7 h => kept_set8 h (Nat.le_refl _) _ _ _ _ _ _ _ _
  have HB := hid hB
  subst ht hq
  have hne := lit_yes ha
  clear ha
  go_enter Tryd.func33, Tryd.ntmps33
  go_wp2_with fail
  generalize w.alloc (.cells #[.string ⟨#[]⟩, .int .u64 0, .int .u32 0, .int .u8 0, .int .u8 0, .int .u32 0, .int .u64 0, .string ⟨#[]⟩] 45) = wa at *
  generalize w.heap.size = X at *
  refine (hC wa).mono ?_
  rintro e w1 ⟨rfl, hw⟩
  rw [hw]; clear hw w1 hC
  go_wp2_with fail
  refine (hS wa (base_kept HB.out HK.out)).mono ?_
  rintro e w1 ⟨Z, rfl, hZ, hZX, hk1⟩
  have HZ := hid hZ
  have HA1 := hid (at_kept HA.out hk1)
  have HK1 := hid (kept_trans HK.out hk1)
  clear hS hk1 HA HK hZ hZX
  have z0 : w1.cell? ⟨Z, 0, none⟩ = some (.string a) := at_cell HZ.out 0
  have z1 : w1.cell? ⟨Z, 1, none⟩ = some (.string b) := at_cell HZ.out 1
  have z2 : w1.cell? ⟨Z, 2, none⟩ = some (.string c) := at_cell HZ.out 2
  have z3 : w1.cell? ⟨Z, 3, none⟩ = some (.string d) := at_cell HZ.out 3
  clear HZ
  go_wp2_with fail
  refine (hk w1).mono ?_
  rintro e w2 ⟨rfl, hw⟩
  rw [hw]; clear hw w2 hk z0
  go_wp2_with fail
  refine (hf w1 (base_kept HB.out HK1.out)).mono ?_
  rintro e w2 ⟨rfl, hk2⟩
  have y1 := (kept_cell hk2 (cell_lt z1)).trans z1
  have y3 := (kept_cell hk2 (cell_lt z3)).trans z3
  have HA2 := hid (at_kept HA1.out hk2)
  have HK2 := hid (kept_trans HK1.out hk2)
  clear hf hk2 HA1 HK1 z1 z2 z3
  go_wp2_with fail
  refine (hg w2 (base_kept HB.out HK2.out)).mono ?_
  rintro e w3 ⟨rfl, hk3⟩
  have x1 := (kept_cell hk3 (cell_lt y1)).trans y1
  have HA3 := hid (at_kept HA2.out hk3)
  have HK3 := hid (kept_trans HK2.out hk3)
  clear hg hk3 HA2 HK2 y1 y3
  clear x1
  obtain ⟨c0, c1, c2, c3, c4, c5, c6, c7, fr⟩ := at_cells8 HA3.out
  go_wp2_with fail
  refine bodyPost_ret (res3 rfl _ rfl rfl rfl (at_set8 HA3.out _ _ _ _ _ _ _ _)) rfl ?_
  exact ⟨rfl, HY.out _ _ _ _ _ _ _ _ _ HK3.out⟩
set_option maxHeartbeats 1600000 in
set_option maxRecDepth 100000 in
theorem first_f (s l : ByteArray) (t : Bool) (q : List ByteArray) (w : World) (hB : Base w)
    (hC : ∀ u, Calls Tryd.prog 40 #[.string l, .string ⟨#[13, 10]⟩] u fun e w' => e = .returned (.tuple #[.string s, .bool t]) ∧ w' = u)
    (hS : ∀ u, Base u → Calls Tryd.prog 41 #[.string s, .string ⟨#[32]⟩] u fun e w' => ∃ Z, e = .returned (.slice (some ⟨Z, 0, none⟩) q.length q.length) ∧ At w' Z (q.map Value.string).toArray 9 ∧ u.heap.size ≤ Z ∧ Kept u w') (ht : t = true) (a b c d : ByteArray) (hq : q = [a, b, c, d]) (ha : a = ⟨#[86, 65, 76, 85, 69]⟩) (fv : Int) (hk : ∀ u, Calls Tryd.prog 42 #[.string b] u fun e w' => e = .returned (.bool true) ∧ w' = u) (hf : ∀ u, Base u → Calls Tryd.prog 43 #[.string c, .int .u64 4294967295] u fun e w' => e = .returned (.tuple #[.int .u64 fv, .bool true]) ∧ Kept u w') (hg : ∀ u, Base u → Calls Tryd.prog 43 #[.string d, .int .u64 1024] u fun e w' => e = .returned (.tuple #[.int .u64 0, .bool false]) ∧ Kept u w') :
    Calls Tryd.prog 33 #[.string l] w fun e w' => e = .returned (firstV none) ∧ Kept w w' := by
  have hz := zero45
  have HA := hid (at_new w #[.string ⟨#[]⟩, .int .u64 0, .int .u32 0, .int .u8 0, .int .u8 0, .int .u32 0, .int .u64 0, .string ⟨#[]⟩] 45)
  have HK := hid (kept_alloc (kept_refl w) (.cells #[.string ⟨#[]⟩, .int .u64 0, .int .u32 0, .int .u8 0, .int .u8 0, .int .u32 0, .int .u64 0, .string ⟨#[]⟩] 45))
  have HY : Hid (∀ (u : World) (a0 a1 a2 a3 a4 a5 a6 a7 : Value), Kept w u → Kept w (set8 u w.heap.size a0 a1 a2 a3 a4 a5 a6 a7)) := fun u a0 a1 a2 a3 a4 a5 a6 a7 h => kept_set8 h (Nat.le_refl _) _ _ _ _ _ _ _ _
  have HB := hid hB
  subst ht hq
  have hne := lit_yes ha
  clear ha
  go_enter Tryd.func33, Tryd.ntmps33
  go_wp2_with fail
  generalize w.alloc (.cells #[.string ⟨#[]⟩, .int .u64 0, .int .u32 0, .int .u8 0, .int .u8 0, .int .u32 0, .int .u64 0, .string ⟨#[]⟩] 45) = wa at *
  generalize w.heap.size = X at *
  refine (hC wa).mono ?_
  rintro e w1 ⟨rfl, hw⟩
  rw [hw]; clear hw w1 hC
  go_wp2_with fail
  refine (hS wa (base_kept HB.out HK.out)).mono ?_
  rintro e w1 ⟨Z, rfl, hZ, hZX, hk1⟩
  have HZ := hid hZ
  have HA1 := hid (at_kept HA.out hk1)
  have HK1 := hid (kept_trans HK.out hk1)
  clear hS hk1 HA HK hZ hZX
  have z0 : w1.cell? ⟨Z, 0, none⟩ = some (.string a) := at_cell HZ.out 0
  have z1 : w1.cell? ⟨Z, 1, none⟩ = some (.string b) := at_cell HZ.out 1
  have z2 : w1.cell? ⟨Z, 2, none⟩ = some (.string c) := at_cell HZ.out 2
  have z3 : w1.cell? ⟨Z, 3, none⟩ = some (.string d) := at_cell HZ.out 3
  clear HZ
  go_wp2_with fail
  refine (hk w1).mono ?_
  rintro e w2 ⟨rfl, hw⟩
  rw [hw]; clear hw w2 hk z0
  go_wp2_with fail
  refine (hf w1 (base_kept HB.out HK1.out)).mono ?_
  rintro e w2 ⟨rfl, hk2⟩
  have y1 := (kept_cell hk2 (cell_lt z1)).trans z1
  have y3 := (kept_cell hk2 (cell_lt z3)).trans z3
  have HA2 := hid (at_kept HA1.out hk2)
  have HK2 := hid (kept_trans HK1.out hk2)
  clear hf hk2 HA1 HK1 z1 z2 z3
  go_wp2_with fail
  refine (hg w2 (base_kept HB.out HK2.out)).mono ?_
  rintro e w3 ⟨rfl, hk3⟩
  have x1 := (kept_cell hk3 (cell_lt y1)).trans y1
  have HA3 := hid (at_kept HA2.out hk3)
  have HK3 := hid (kept_trans HK2.out hk3)
  clear hg hk3 HA2 HK2 y1 y3
  clear x1
  obtain ⟨c0, c1, c2, c3, c4, c5, c6, c7, fr⟩ := at_cells8 HA3.out
  go_wp2_with fail
  refine bodyPost_ret (res3 rfl _ rfl rfl rfl (at_set8 HA3.out _ _ _ _ _ _ _ _)) rfl ?_
  exact ⟨rfl, HY.out _ _ _ _ _ _ _ _ _ HK3.out⟩
set_option maxHeartbeats 1600000 in
set_option maxRecDepth 100000 in
theorem first_g (s l : ByteArray) (t : Bool) (q : List ByteArray) (w : World) (hB : Base w)
    (hC : ∀ u, Calls Tryd.prog 40 #[.string l, .string ⟨#[13, 10]⟩] u fun e w' => e = .returned (.tuple #[.string s, .bool t]) ∧ w' = u)
    (hS : ∀ u, Base u → Calls Tryd.prog 41 #[.string s, .string ⟨#[32]⟩] u fun e w' => ∃ Z, e = .returned (.slice (some ⟨Z, 0, none⟩) q.length q.length) ∧ At w' Z (q.map Value.string).toArray 9 ∧ u.heap.size ≤ Z ∧ Kept u w') (ht : t = true) (a b c d : ByteArray) (hq : q = [a, b, c, d]) (ha : a = ⟨#[86, 65, 76, 85, 69]⟩) (f n : Nat) (hf2 : f ≤ 4294967295) (hn2 : n ≤ 1024) (hb : b.size ≤ 1000) (hk : ∀ u, Calls Tryd.prog 42 #[.string b] u fun e w' => e = .returned (.bool true) ∧ w' = u) (hf : ∀ u, Base u → Calls Tryd.prog 43 #[.string c, .int .u64 4294967295] u fun e w' => e = .returned (.tuple #[.int .u64 (f : Int), .bool true]) ∧ Kept u w') (hg : ∀ u, Base u → Calls Tryd.prog 43 #[.string d, .int .u64 1024] u fun e w' => e = .returned (.tuple #[.int .u64 (n : Int), .bool true]) ∧ Kept u w') :
    Calls Tryd.prog 33 #[.string l] w fun e w' => e = .returned (firstV (some (b.data.toList, f, n))) ∧ Kept w w' := by
  have hz := zero45
  have HA := hid (at_new w #[.string ⟨#[]⟩, .int .u64 0, .int .u32 0, .int .u8 0, .int .u8 0, .int .u32 0, .int .u64 0, .string ⟨#[]⟩] 45)
  have HK := hid (kept_alloc (kept_refl w) (.cells #[.string ⟨#[]⟩, .int .u64 0, .int .u32 0, .int .u8 0, .int .u8 0, .int .u32 0, .int .u64 0, .string ⟨#[]⟩] 45))
  have HY : Hid (∀ (u : World) (a0 a1 a2 a3 a4 a5 a6 a7 : Value), Kept w u → Kept w (set8 u w.heap.size a0 a1 a2 a3 a4 a5 a6 a7)) := fun u a0 a1 a2 a3 a4 a5 a6 a7 h => kept_set8 h (Nat.le_refl _) _ _ _ _ _ _ _ _
  have HB := hid hB
  subst ht hq
  have hne := lit_yes ha
  clear ha
  go_enter Tryd.func33, Tryd.ntmps33
  go_wp2_with fail
  generalize w.alloc (.cells #[.string ⟨#[]⟩, .int .u64 0, .int .u32 0, .int .u8 0, .int .u8 0, .int .u32 0, .int .u64 0, .string ⟨#[]⟩] 45) = wa at *
  generalize w.heap.size = X at *
  refine (hC wa).mono ?_
  rintro e w1 ⟨rfl, hw⟩
  rw [hw]; clear hw w1 hC
  go_wp2_with fail
  refine (hS wa (base_kept HB.out HK.out)).mono ?_
  rintro e w1 ⟨Z, rfl, hZ, hZX, hk1⟩
  have HZ := hid hZ
  have HA1 := hid (at_kept HA.out hk1)
  have HK1 := hid (kept_trans HK.out hk1)
  clear hS hk1 HA HK hZ hZX
  have z0 : w1.cell? ⟨Z, 0, none⟩ = some (.string a) := at_cell HZ.out 0
  have z1 : w1.cell? ⟨Z, 1, none⟩ = some (.string b) := at_cell HZ.out 1
  have z2 : w1.cell? ⟨Z, 2, none⟩ = some (.string c) := at_cell HZ.out 2
  have z3 : w1.cell? ⟨Z, 3, none⟩ = some (.string d) := at_cell HZ.out 3
  clear HZ
  go_wp2_with fail
  refine (hk w1).mono ?_
  rintro e w2 ⟨rfl, hw⟩
  rw [hw]; clear hw w2 hk z0
  go_wp2_with fail
  refine (hf w1 (base_kept HB.out HK1.out)).mono ?_
  rintro e w2 ⟨rfl, hk2⟩
  have y1 := (kept_cell hk2 (cell_lt z1)).trans z1
  have y3 := (kept_cell hk2 (cell_lt z3)).trans z3
  have HA2 := hid (at_kept HA1.out hk2)
  have HK2 := hid (kept_trans HK1.out hk2)
  clear hf hk2 HA1 HK1 z1 z2 z3
  go_wp2_with fail
  refine (hg w2 (base_kept HB.out HK2.out)).mono ?_
  rintro e w3 ⟨rfl, hk3⟩
  have x1 := (kept_cell hk3 (cell_lt y1)).trans y1
  have HA3 := hid (at_kept HA2.out hk3)
  have HK3 := hid (kept_trans HK2.out hk3)
  clear hg hk3 HA2 HK2 y1 y3
  have hw1 : IntKind.u32.wrap (f : Int) = (f : Int) := by rw [IntKind.wrap_u32]; omega
  have hw2 : IntKind.i64.wrap (n : Int) = (n : Int) := by rw [IntKind.wrap_i64]; omega
  go_wp2_with fail
  refine (clone_any b (by omega) w3).mono ?_
  rintro e w4 ⟨rfl, hk4⟩
  have HA4 := hid (at_kept HA3.out hk4)
  have HK4 := hid (kept_trans HK3.out hk4)
  clear hk4 HA3 HK3 x1
  obtain ⟨c0, c1, c2, c3, c4, c5, c6, c7, fr⟩ := at_cells8 HA4.out
  go_wp2_with fail
  refine bodyPost_ret (res3 rfl _ rfl rfl rfl (at_set8 HA4.out _ _ _ _ _ _ _ _)) rfl ?_
  rw [firstV_some]
  exact ⟨rfl, HY.out _ _ _ _ _ _ _ _ _ HK4.out⟩
theorem key_call (b : ByteArray) (v : Bool) (hs : b.size ≤ 1000) (h : keyMay b = v) (u : World) : Calls Tryd.prog 42 #[.string b] u fun e w' => e = .returned (.bool v) ∧ w' = u := by
  have := KeyMay_any b (by unfold maxLen; omega) u
  rw [h] at this
  exact this
theorem num_call (c : ByteArray) (m : Nat) (o : Option Nat) (hs : c.size ≤ 1000) (hm : m < 18446744073709551616) (h : numOf c.data.toList m = o) (u : World) (hB : Base u) : Calls Tryd.prog 43 #[.string c, .int .u64 (m : Int)] u fun e w' => e = .returned (numV o) ∧ Kept u w' := by
  have := number_any c m (by omega) hm u hB
  rw [h] at this
  exact this
theorem mem_size {q : List ByteArray} {s : List UInt8} {x : ByteArray} (h : q.map (·.data.toList) = wordsL s) (hx : x ∈ q) : x.size ≤ s.length := by
  have h1 : x.data.toList ∈ wordsL s := by rw [← h]; exact List.mem_map_of_mem hx
  have h2 : ∀ (n : Nat) (s : List UInt8), s.length ≤ n → ∀ y ∈ wordsL s, y.length ≤ s.length := by
    intro n
    induction n with
    | zero =>
      intro s hs y hy
      rcases words_cases s with ⟨-, e⟩ | ⟨a, b, e1, -, e⟩
      · rw [e] at hy; simp at hy; rw [hy]; exact Nat.le_refl _
      · rw [e1] at hs; simp at hs
    | succ n ih =>
      intro s hs y hy
      rcases words_cases s with ⟨-, e⟩ | ⟨a, b, e1, -, e⟩
      · rw [e] at hy; simp at hy; rw [hy]; exact Nat.le_refl _
      · rw [e] at hy
        have hl : s.length = a.length + (b.length + 1) := by rw [e1]; simp
        rcases List.mem_cons.1 hy with rfl | hy
        · omega
        · have := ih b (by omega) y hy
          omega
  rw [← size_list]
  exact h2 _ s (Nat.le_refl _) _ h1
theorem readFirst_any (l : ByteArray) (hl : l.size ≤ 1000) (w : World) (hB : Base w) :
    Calls Tryd.prog 33 #[.string l] w fun e w' => e = .returned (firstV (firstOf l.data.toList)) ∧ Kept w w' := by
  obtain ⟨s, hs⟩ : ∃ s : ByteArray, s = ⟨(Lib.trimSuffix l.data.toList [13, 10]).toArray⟩ := ⟨_, rfl⟩
  obtain ⟨t, ht⟩ : ∃ t : Bool, t = Lib.hasSuffix l.data.toList [13, 10] := ⟨_, rfl⟩
  have hC : ∀ u, Calls Tryd.prog 40 #[.string l, .string ⟨#[13, 10]⟩] u fun e w' => e = .returned (.tuple #[.string s, .bool t]) ∧ w' = u := fun u => by
    have := lib_CutSuffix l ⟨#[13, 10]⟩ u (by omega)
    rw [hs, ht]
    exact this
  have hsl : s.data.toList = Lib.trimSuffix l.data.toList [13, 10] := by rw [hs, mk_list]
  have hss : s.size ≤ l.size := by
    rw [← size_list, ← size_list, hsl]
    unfold Lib.trimSuffix
    split
    · rw [List.length_take]; omega
    · exact Nat.le_refl _
  obtain ⟨q, hq⟩ : ∃ q, q = Lib.splitB ⟨#[32]⟩ 0 (Lib.countB s ⟨#[32]⟩) s := ⟨_, rfl⟩
  have hS : ∀ u, Base u → Calls Tryd.prog 41 #[.string s, .string ⟨#[32]⟩] u fun e w' => ∃ Z, e = .returned (.slice (some ⟨Z, 0, none⟩) q.length q.length) ∧ At w' Z (q.map Value.string).toArray 9 ∧ u.heap.size ≤ Z ∧ Kept u w' := fun u hu => by
    rw [hq]; exact split_any s (by omega) u hu
  have hW : q.map (·.data.toList) = wordsL s.data.toList := by rw [hq]; exact splitB_words s
  clear hq
  cases hb : t with
  | false =>
    rw [first_no_end (by rw [← ht]; exact hb)]
    exact first_a s l t q w hB hC hS hb
  | true =>
    have hcut : l.data.toList = s.data.toList ++ [13, 10] := by rw [hsl]; exact suffix_cut (by rw [← ht]; exact hb)
    by_cases hn : q.length = 4
    · obtain ⟨a, b, c, d, rfl⟩ := list4 hn
      have hsz : ∀ x ∈ [a, b, c, d], x.size ≤ 1000 := fun x hx => by
        have := mem_size hW hx
        rw [size_list] at this
        omega
      have hw4 : wordsL s.data.toList = [a.data.toList, b.data.toList, c.data.toList, d.data.toList] := by rw [← hW]; rfl
      by_cases ha : a = ⟨#[86, 65, 76, 85, 69]⟩
      · cases hk : keyMay b with
        | false =>
          rw [first_no_words hcut (fun k f n h1 _ _ e => by
            rw [hw4] at e
            injection e with _ e
            injection e with e _
            rw [key_ok, e, h1] at hk
            cases hk)]
          exact first_d s l t _ w hB hC hS hb a b c d rfl ha (key_call b false (hsz b (by simp)) hk)
        | true =>
          have hkc := key_call b true (hsz b (by simp)) hk
          cases hf : numOf c.data.toList 4294967295 with
          | none =>
            rw [first_no_words hcut (fun k f n _ h2 _ e => by
              rw [hw4] at e
              injection e with _ e
              injection e with _ e
              injection e with e _
              rw [num_some.2 ⟨e, h2⟩] at hf
              cases hf)]
            have h1 := num_call c 4294967295 none (hsz c (by simp)) (by omega) hf
            cases hg : numOf d.data.toList 1024 with
            | none => exact first_e s l t _ w hB hC hS hb a b c d rfl ha _ _ hkc h1 (num_call d 1024 none (hsz d (by simp)) (by omega) hg)
            | some n => exact first_e s l t _ w hB hC hS hb a b c d rfl ha _ _ hkc h1 (num_call d 1024 (some n) (hsz d (by simp)) (by omega) hg)
          | some f =>
            have h1 := num_call c 4294967295 (some f) (hsz c (by simp)) (by omega) hf
            cases hg : numOf d.data.toList 1024 with
            | none =>
              rw [first_no_words hcut (fun k f n _ _ h3 e => by
                rw [hw4] at e
                injection e with _ e
                injection e with _ e
                injection e with _ e
                injection e with e _
                rw [num_some.2 ⟨e, h3⟩] at hg
                cases hg)]
              exact first_f s l t _ w hB hC hS hb a b c d rfl ha _ hkc h1 (num_call d 1024 none (hsz d (by simp)) (by omega) hg)
            | some n =>
              rw [first_of_words hcut (by rw [hw4, ha]) (by rw [← key_ok]; exact hk) hf hg]
              exact first_g s l t _ w hB hC hS hb a b c d rfl ha f n (num_some.1 hf).2 (num_some.1 hg).2 (hsz b (by simp)) hkc h1 (num_call d 1024 (some n) (hsz d (by simp)) (by omega) hg)
      · rw [first_no_words hcut (fun k f n _ _ _ e => by
          rw [hw4] at e
          injection e with e _
          exact ha (bytes_ext e))]
        exact first_c s l t _ w hB hC hS hb a b c d rfl ha
    · rw [first_no_words hcut (fun k f n _ _ _ e => by
        rw [← hW] at e
        have := congrArg List.length e
        simp at this
        exact hn this)]
      exact first_b s l t q w hB hC hS hb hn
end Go.Proofs.YtlbpmehlfihpbaaDoor
