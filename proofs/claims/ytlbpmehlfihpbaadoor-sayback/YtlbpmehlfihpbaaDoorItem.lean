/- The contract of the function that reads an item behind its first line. A line has at most 1,000 bytes. -/
import Derived.Test.YtlbpmehlfihpbaaDoorFirst
namespace Go.Proofs.YtlbpmehlfihpbaaDoor
open Go.ChangeShapes Go.WideShapes Go.ChangeAt Go.RowKit
set_option linter.unusedVariables false
set_option linter.unusedSimpArgs false

set_option maxHeartbeats 1600000 in
set_option maxRecDepth 100000 in
theorem item_no (l s : ByteArray) (w : World) (hB : Base w) (hF : ∀ u, Base u → Calls Tryd.prog 33 #[.string l] u fun e w' => e = .returned (.tuple #[.agg #[.string ⟨#[]⟩, .int .u64 0, .int .u32 0, .int .u8 0, .int .u8 0, .int .u32 0, .int .u64 0, .string ⟨#[]⟩], .int .i64 0, .bool false]) ∧ Kept u w') :
    Calls Tryd.prog 25 #[.string l, .string s] w fun e w' => e = .returned (.tuple #[.agg #[.string ⟨#[]⟩, .int .u64 0, .int .u32 0, .int .u8 0, .int .u8 0, .int .u32 0, .int .u64 0, .string ⟨#[]⟩], .string ⟨#[]⟩, .int .i64 3]) ∧ Kept w w' := by
  have hz := zero45
  have HA := hid (at_new w #[.string ⟨#[]⟩, .int .u64 0, .int .u32 0, .int .u8 0, .int .u8 0, .int .u32 0, .int .u64 0, .string ⟨#[]⟩] 45)
  have HK := hid (kept_alloc (kept_refl w) (.cells #[.string ⟨#[]⟩, .int .u64 0, .int .u32 0, .int .u8 0, .int .u8 0, .int .u32 0, .int .u64 0, .string ⟨#[]⟩] 45))
  have HY : Hid (∀ (u : World) (a0 a1 a2 a3 a4 a5 a6 a7 : Value), Kept w u → Kept w (set8 u w.heap.size a0 a1 a2 a3 a4 a5 a6 a7)) := fun u a0 a1 a2 a3 a4 a5 a6 a7 h => kept_set8 h (Nat.le_refl _) _ _ _ _ _ _ _ _
  have HB := hid hB
  clear hB
  go_enter Tryd.func25, Tryd.ntmps25
  go_wp2_with fail
  generalize w.alloc (.cells #[.string ⟨#[]⟩, .int .u64 0, .int .u32 0, .int .u8 0, .int .u8 0, .int .u32 0, .int .u64 0, .string ⟨#[]⟩] 45) = wa at *
  generalize w.heap.size = X at *
  refine (hF wa (base_kept HB.out HK.out)).mono ?_
  rintro e w1 ⟨rfl, hk1⟩
  have HA1 := hid (at_alloc (at_kept HA.out hk1) (.cells #[.string ⟨#[]⟩, .int .u64 0, .int .u32 0, .int .u8 0, .int .u8 0, .int .u32 0, .int .u64 0, .string ⟨#[]⟩] 45))
  have HK1 := hid (kept_alloc (kept_trans HK.out hk1) (.cells #[.string ⟨#[]⟩, .int .u64 0, .int .u32 0, .int .u8 0, .int .u8 0, .int .u32 0, .int .u64 0, .string ⟨#[]⟩] 45))
  obtain ⟨c0, c1, c2, c3, c4, c5, c6, c7, fr⟩ := at_cells8 HA1.out
  clear hF hk1 HA HK
  go_wp2_with fail
  generalize w1.alloc (.cells #[.string ⟨#[]⟩, .int .u64 0, .int .u32 0, .int .u8 0, .int .u8 0, .int .u32 0, .int .u64 0, .string ⟨#[]⟩] 45) = w2 at *
  refine bodyPost_ret (res3 rfl _ rfl rfl rfl (at_set8 HA1.out _ _ _ _ _ _ _ _)) rfl ?_
  exact ⟨rfl, HY.out _ _ _ _ _ _ _ _ _ HK1.out⟩
set_option maxHeartbeats 1600000 in
set_option maxRecDepth 100000 in
theorem item_bad (l s k : ByteArray) (f n : Nat) (c : Int) (hc : (c == 0) = false) (w : World) (hB : Base w) (hF : ∀ u, Base u → Calls Tryd.prog 33 #[.string l] u fun e w' => e = .returned (.tuple #[.agg #[.string k, .int .u64 0, .int .u32 0, .int .u8 0, .int .u8 3, .int .u32 (f : Int), .int .u64 0, .string ⟨#[]⟩], .int .i64 (n : Int), .bool true]) ∧ Kept u w')
    (hC : ∀ u, Calls Tryd.prog 34 #[.string s, .int .i64 (n : Int)] u fun e w' => e = .returned (.tuple #[.string ⟨#[]⟩, .string ⟨#[]⟩, .int .i64 c]) ∧ w' = u) :
    Calls Tryd.prog 25 #[.string l, .string s] w fun e w' => e = .returned (.tuple #[.agg #[.string ⟨#[]⟩, .int .u64 0, .int .u32 0, .int .u8 0, .int .u8 0, .int .u32 0, .int .u64 0, .string ⟨#[]⟩], .string ⟨#[]⟩, .int .i64 c]) ∧ Kept w w' := by
  have hz := zero45
  have HA := hid (at_new w #[.string ⟨#[]⟩, .int .u64 0, .int .u32 0, .int .u8 0, .int .u8 0, .int .u32 0, .int .u64 0, .string ⟨#[]⟩] 45)
  have HK := hid (kept_alloc (kept_refl w) (.cells #[.string ⟨#[]⟩, .int .u64 0, .int .u32 0, .int .u8 0, .int .u8 0, .int .u32 0, .int .u64 0, .string ⟨#[]⟩] 45))
  have HY : Hid (∀ (u : World) (a0 a1 a2 a3 a4 a5 a6 a7 : Value), Kept w u → Kept w (set8 u w.heap.size a0 a1 a2 a3 a4 a5 a6 a7)) := fun u a0 a1 a2 a3 a4 a5 a6 a7 h => kept_set8 h (Nat.le_refl _) _ _ _ _ _ _ _ _
  have HB := hid hB
  have hc2 : (c != 0) = true := by simpa using hc
  clear hB
  go_enter Tryd.func25, Tryd.ntmps25
  go_wp2_with fail
  generalize w.alloc (.cells #[.string ⟨#[]⟩, .int .u64 0, .int .u32 0, .int .u8 0, .int .u8 0, .int .u32 0, .int .u64 0, .string ⟨#[]⟩] 45) = wa at *
  generalize w.heap.size = X at *
  refine (hF wa (base_kept HB.out HK.out)).mono ?_
  rintro e w1 ⟨rfl, hk1⟩
  have HA1 := hid (at_alloc (at_kept HA.out hk1) (.cells #[.string k, .int .u64 0, .int .u32 0, .int .u8 0, .int .u8 3, .int .u32 (f : Int), .int .u64 0, .string ⟨#[]⟩] 45))
  have HK1 := hid (kept_alloc (kept_trans HK.out hk1) (.cells #[.string k, .int .u64 0, .int .u32 0, .int .u8 0, .int .u8 3, .int .u32 (f : Int), .int .u64 0, .string ⟨#[]⟩] 45))
  clear hF hk1 HA HK
  go_wp2_with fail
  generalize w1.alloc (.cells #[.string k, .int .u64 0, .int .u32 0, .int .u8 0, .int .u8 3, .int .u32 (f : Int), .int .u64 0, .string ⟨#[]⟩] 45) = w2 at *
  refine (hC w2).mono ?_
  rintro e w3 ⟨rfl, hw⟩
  rw [hw]; clear hw w3 hC
  obtain ⟨c0, c1, c2, c3, c4, c5, c6, c7, fr⟩ := at_cells8 HA1.out
  go_wp2_with fail
  refine bodyPost_ret (res3 rfl _ rfl rfl rfl (at_set8 HA1.out _ _ _ _ _ _ _ _)) rfl ?_
  exact ⟨rfl, HY.out _ _ _ _ _ _ _ _ _ HK1.out⟩
set_option maxHeartbeats 1600000 in
set_option maxRecDepth 100000 in
theorem item_yes (l s k b r : ByteArray) (f n : Nat) (hb : b.size ≤ 140737488355328) (w : World) (hB : Base w) (hF : ∀ u, Base u → Calls Tryd.prog 33 #[.string l] u fun e w' => e = .returned (.tuple #[.agg #[.string k, .int .u64 0, .int .u32 0, .int .u8 0, .int .u8 3, .int .u32 (f : Int), .int .u64 0, .string ⟨#[]⟩], .int .i64 (n : Int), .bool true]) ∧ Kept u w')
    (hC : ∀ u, Calls Tryd.prog 34 #[.string s, .int .i64 (n : Int)] u fun e w' => e = .returned (.tuple #[.string b, .string r, .int .i64 0]) ∧ w' = u) :
    Calls Tryd.prog 25 #[.string l, .string s] w fun e w' => e = .returned (.tuple #[.agg #[.string k, .int .u64 0, .int .u32 0, .int .u8 0, .int .u8 3, .int .u32 (f : Int), .int .u64 0, .string b], .string r, .int .i64 0]) ∧ Kept w w' := by
  have hz := zero45
  have HA := hid (at_new w #[.string ⟨#[]⟩, .int .u64 0, .int .u32 0, .int .u8 0, .int .u8 0, .int .u32 0, .int .u64 0, .string ⟨#[]⟩] 45)
  have HK := hid (kept_alloc (kept_refl w) (.cells #[.string ⟨#[]⟩, .int .u64 0, .int .u32 0, .int .u8 0, .int .u8 0, .int .u32 0, .int .u64 0, .string ⟨#[]⟩] 45))
  have HX : Hid (w.heap.size < (w.alloc (.cells #[.string ⟨#[]⟩, .int .u64 0, .int .u32 0, .int .u8 0, .int .u8 0, .int .u32 0, .int .u64 0, .string ⟨#[]⟩] 45)).heap.size) := at_lt HA.out
  have HY : Hid (∀ (u : World) (a0 a1 a2 a3 a4 a5 a6 a7 : Value), Kept w u → Kept w (set8 u w.heap.size a0 a1 a2 a3 a4 a5 a6 a7)) := fun u a0 a1 a2 a3 a4 a5 a6 a7 h => kept_set8 h (Nat.le_refl _) _ _ _ _ _ _ _ _
  have HB := hid hB
  clear hB
  go_enter Tryd.func25, Tryd.ntmps25
  go_wp2_with fail
  generalize w.alloc (.cells #[.string ⟨#[]⟩, .int .u64 0, .int .u32 0, .int .u8 0, .int .u8 0, .int .u32 0, .int .u64 0, .string ⟨#[]⟩] 45) = wa at *
  generalize w.heap.size = X at *
  refine (hF wa (base_kept HB.out HK.out)).mono ?_
  rintro e w1 ⟨rfl, hk1⟩
  have HN : Hid (X ≠ w1.heap.size) := by show _ ≠ _; have := HX.out; have := hk1.2; omega
  have HV : Hid (w.heap.size ≤ w1.heap.size) := by show _ ≤ _; have := HK.out.2; have := hk1.2; omega
  have HA1 := hid (at_alloc (at_kept HA.out hk1) (.cells #[.string k, .int .u64 0, .int .u32 0, .int .u8 0, .int .u8 3, .int .u32 (f : Int), .int .u64 0, .string ⟨#[]⟩] 45))
  have HD1 := hid (at_new w1 #[.string k, .int .u64 0, .int .u32 0, .int .u8 0, .int .u8 3, .int .u32 (f : Int), .int .u64 0, .string ⟨#[]⟩] 45)
  have HK1 := hid (kept_alloc (kept_trans HK.out hk1) (.cells #[.string k, .int .u64 0, .int .u32 0, .int .u8 0, .int .u8 3, .int .u32 (f : Int), .int .u64 0, .string ⟨#[]⟩] 45))
  clear hF hk1 HA HK HX
  go_wp2_with fail
  generalize w1.alloc (.cells #[.string k, .int .u64 0, .int .u32 0, .int .u8 0, .int .u8 3, .int .u32 (f : Int), .int .u64 0, .string ⟨#[]⟩] 45) = w2 at *
  generalize w1.heap.size = Y at *
  refine (hC w2).mono ?_
  rintro e w3 ⟨rfl, hw⟩
  rw [hw]; clear hw w3 hC
  go_wp2_with fail
  refine (clone_any b hb w2).mono ?_
  rintro e w4 ⟨rfl, hk4⟩
  have HA4 := hid (at_other (at_kept HA1.out hk4) HN.out 7 (.string b))
  have HD4 := hid (show At (w4.setCell ⟨Y, 7, none⟩ (.string b)) Y #[.string k, .int .u64 0, .int .u32 0, .int .u8 0, .int .u8 3, .int .u32 (f : Int), .int .u64 0, .string b] 45 from at_set (at_kept HD1.out hk4) 7 (.string b))
  have HK4 := hid (kept_set (kept_trans HK1.out hk4) HV.out 7 (.string b))
  have hd7 : w4.cell? ⟨Y, 7, none⟩ = some (.string ⟨#[]⟩) := at_cell (at_kept HD1.out hk4) 7
  have hf7 : w4.frozen? ⟨Y, 7, none⟩ = false := at_frozen (at_kept HD1.out hk4) 7
  clear hk4 HA1 HD1 HK1
  obtain ⟨c0, c1, c2, c3, c4, c5, c6, c7, fr⟩ := at_cells8 HA4.out
  obtain ⟨d0, d1, d2, d3, d4, d5, d6, d7, -⟩ := at_cells8 HD4.out
  go_wp2_with fail
  generalize w4.setCell ⟨Y, 7, none⟩ (.string b) = w5 at *
  refine bodyPost_ret (res3 rfl _ rfl rfl rfl (at_set8 HA4.out _ _ _ _ _ _ _ _)) rfl ?_
  exact ⟨rfl, HY.out _ _ _ _ _ _ _ _ _ HK4.out⟩
/- An item, or none. -/
def itemV : St → Value
  | .inr (.inr (k, f, b, r)) => .tuple #[.agg #[.string ⟨k.toArray⟩, .int .u64 0, .int .u32 0, .int .u8 0, .int .u8 3, .int .u32 (f : Int), .int .u64 0, .string ⟨b.toArray⟩], .string ⟨r.toArray⟩, .int .i64 0]
  | .inl c => .tuple #[.agg #[.string ⟨#[]⟩, .int .u64 0, .int .u32 0, .int .u8 0, .int .u8 0, .int .u32 0, .int .u64 0, .string ⟨#[]⟩], .string ⟨#[]⟩, .int .i64 (c : Int)]
  | .inr (.inl _) => .tuple #[]
theorem readItem_any (l s : ByteArray) (hl : l.size ≤ 1000) (hs : s.size ≤ 140737488355328) (hE : ¬ l.data.toList = endL) (w : World) (hB : Base w) :
    Calls Tryd.prog 25 #[.string l, .string s] w fun e w' => e = .returned (itemV (lineOf l.data.toList s.data.toList)) ∧ Kept w w' := by
  have hF := fun u hu => readFirst_any l hl u hu
  unfold lineOf
  rw [if_neg hE]
  cases h : firstOf l.data.toList with
  | none =>
    rw [h] at hF
    exact item_no l s w hB hF
  | some x =>
    obtain ⟨k, f, n⟩ := x
    rw [h] at hF
    have hn : n ≤ 1024 := (first_is h).2.2.2
    simp only
    unfold bodyOf
    by_cases h1 : ([13, 10] : List UInt8) <+: s.data.toList.drop n
    · rw [if_pos h1]
      have hC := fun u => cutBody_hit s n (by unfold maxLen; omega) h1 u
      have := item_yes l s ⟨k.toArray⟩ (s.extract 0 n) ⟨(s.data.toList.drop (n + 2)).toArray⟩ f n (by
        have h2 : (s.extract 0 n).size ≤ s.size := by
          rw [← size_list, ext_to, List.length_take, size_list]; omega
        omega) w hB hF hC
      have e : (⟨(s.data.toList.take n).toArray⟩ : ByteArray) = s.extract 0 n := bytes_ext (by rw [mk_list, ext_to])
      have e2 : itemV (.item k f (s.data.toList.take n) (s.data.toList.drop (n + 2))) = .tuple #[.agg #[.string ⟨k.toArray⟩, .int .u64 0, .int .u32 0, .int .u8 0, .int .u8 3, .int .u32 (f : Int), .int .u64 0, .string (s.extract 0 n)], .string ⟨(s.data.toList.drop (n + 2)).toArray⟩, .int .i64 0] := by
        simp only [itemV, e]
      rw [e2]
      exact this
    · rw [if_neg h1]
      have hC := fun u => cutBody_none s n (by unfold maxLen; omega) hn h1 u
      by_cases h2 : s.data.toList.drop n <+: [13, 10]
      · rw [if_pos h2]
        simp only [if_pos h2] at hC
        exact item_bad l s ⟨k.toArray⟩ f n 2 rfl w hB hF hC
      · rw [if_neg h2]
        simp only [if_neg h2] at hC
        exact item_bad l s ⟨k.toArray⟩ f n 3 rfl w hB hF hC
end Go.Proofs.YtlbpmehlfihpbaaDoor
