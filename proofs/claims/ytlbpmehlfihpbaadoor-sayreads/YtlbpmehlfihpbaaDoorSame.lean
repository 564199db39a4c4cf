/- The contracts of the reference's functions on records: which value may be, and whether two rows are the same. They turn nothing that was there. -/
import Derived.Test.YtlbpmehlfihpbaaDoorAppend
import Derived.BigQuiet
namespace Go.Proofs.YtlbpmehlfihpbaaDoor
open Go.ChangeShapes Go.WideShapes Go.ChangeAt Go.RowKit
set_option linter.unusedVariables false
set_option linter.unusedSimpArgs false

def mayI (k b : ByteArray) : Bool := keyMay k && decide (b.size ≤ 1024)
set_option maxHeartbeats 1600000 in
set_option maxRecDepth 100000 in
theorem May_any (k b : ByteArray) (f : Nat) (hk : k.size ≤ maxLen) (hb : b.size ≤ maxLen) (w : World) :
    Calls Tryd.prog 17 #[.agg #[.string k, .int .u64 0, .int .u32 0, .int .u8 0, .int .u8 3, .int .u32 (f : Int), .int .u64 0, .string b]] w fun e w' => e = .returned (.bool (mayI k b)) ∧ Kept w w' := by
  have HK := hid (kept_alloc (kept_refl w) (.cells #[.string k, .int .u64 0, .int .u32 0, .int .u8 0, .int .u8 3, .int .u32 (f : Int), .int .u64 0, .string b] 45))
  have HC : Hid (∀ u, Calls Tryd.prog 27 #[.string k] u fun e w' => e = .returned (.bool (keyMay k)) ∧ w' = u) := fun u => refKeyMay_any k hk u
  unfold maxLen at hb
  have HA := at_new w #[.string k, .int .u64 0, .int .u32 0, .int .u8 0, .int .u8 3, .int .u32 (f : Int), .int .u64 0, .string b] 45
  obtain ⟨c0, c1, c2, c3, c4, c5, c6, c7, fr⟩ := at_cells8 HA
  clear HA hk
  cases h1 : keyMay k with
  | false =>
    rw [h1] at HC
    have HE : Hid (false = mayI k b) := by show _ = _; unfold mayI; rw [h1]; rfl
    clear h1
    go_enter Tryd.func17, Tryd.ntmps17
    go_wp2_with fail
    generalize w.alloc (.cells #[.string k, .int .u64 0, .int .u32 0, .int .u8 0, .int .u8 3, .int .u32 (f : Int), .int .u64 0, .string b] 45) = wa at *
    generalize w.heap.size = X at *
    refine (HC.out wa).mono ?_
    rintro e w1 ⟨rfl, hw⟩
    rw [hw]; clear hw w1 HC
    go_wp2
    go_ret
    exact ⟨ret_bool HE.out, HK.out⟩
  | true =>
    rw [h1] at HC
    by_cases h2 : (1024 : Int) < (b.size : Int)
    · have HE : Hid (false = mayI k b) := by show _ = _; unfold mayI; rw [decide_eq_false (by omega), Bool.and_false]
      clear h1
      go_enter Tryd.func17, Tryd.ntmps17
      go_wp2_with fail
      generalize w.alloc (.cells #[.string k, .int .u64 0, .int .u32 0, .int .u8 0, .int .u8 3, .int .u32 (f : Int), .int .u64 0, .string b] 45) = wa at *
      generalize w.heap.size = X at *
      refine (HC.out wa).mono ?_
      rintro e w1 ⟨rfl, hw⟩
      rw [hw]; clear hw w1 HC
      go_wp2
      go_ret
      exact ⟨ret_bool HE.out, HK.out⟩
    · have HE : Hid (true = mayI k b) := by show _ = _; unfold mayI; rw [h1, decide_eq_true (by omega)]; rfl
      clear h1
      go_enter Tryd.func17, Tryd.ntmps17
      go_wp2_with fail
      generalize w.alloc (.cells #[.string k, .int .u64 0, .int .u32 0, .int .u8 0, .int .u8 3, .int .u32 (f : Int), .int .u64 0, .string b] 45) = wa at *
      generalize w.heap.size = X at *
      refine (HC.out wa).mono ?_
      rintro e w1 ⟨rfl, hw⟩
      rw [hw]; clear hw w1 HC
      go_wp2
      go_ret
      exact ⟨ret_bool HE.out, HK.out⟩
set_option maxHeartbeats 800000 in
theorem eq_self (a : R) (w : World) : (Op.equalIn 10000 45 (.agg #[.string a.key, .int .u64 a.s.p, .int .u32 a.s.l, .int .u8 a.s.n, .int .u8 a.kind, .int .u32 a.flags, .int .u64 a.exp, .string a.body]) (.agg #[.string a.key, .int .u64 a.s.p, .int .u32 a.s.l, .int .u8 a.s.n, .int .u8 a.kind, .int .u32 a.flags, .int .u64 a.exp, .string a.body])).run Tryd.prog w = .ok true w := by
  go_simp
set_option maxHeartbeats 1600000 in
set_option maxRecDepth 100000 in
theorem same_rows (oa0 : Option Addr) (n cap0 b0 o0 : Nat) (oa1 : Option Addr) (cap1 b1 o1 : Nat) (L : List R) (w : World) (h0 : Row w oa0 n cap0 b0 o0 L) (h1 : Row w oa1 n cap1 b1 o1 L) :
    Calls Tryd.prog 16 #[.slice oa0 n cap0, .slice oa1 n cap1] w fun e w' => e = .returned (.bool true) ∧ Kept w w' := by
  obtain ⟨x0, x1, x2, -, x4, x5⟩ := h0
  obtain ⟨y0, y1, y2, -, y4, y5⟩ := h1
  have H0 : Hid (L.length = n) := x0
  have H4 : Hid (0 < n → (oa0 = some ⟨b0, o0, none⟩ ∧ b0 < w.heap.size) ∧ (oa1 = some ⟨b1, o1, none⟩ ∧ b1 < w.heap.size)) := fun h => ⟨x4 h, y4 h⟩
  have H5 : Hid (∀ i (h : i < L.length), Lies w b0 (o0 + i * 8) L[i] ∧ Lies w b1 (o1 + i * 8) L[i]) := fun i h => ⟨(x5 i h).2, (y5 i h).2⟩
  have hm : n ≤ 9223372036854775807 := by unfold maxLen at x2; omega
  have hnn : ((n : Int) != (n : Int)) = false := by simp
  have K0 := hid (kept_refl w)
  clear x0 x2 x4 x5 y0 y2 y4 y5
  go_enter Tryd.func16, Tryd.ntmps16
  go_wp2
  go_loopw [13] (fun j wr => ∃ k : Nat, k ≤ n ∧ j = .int .i64 k ∧ Hid (Kept w wr)) (fun j _ => n - (intOf j).toNat)
  case atStart => exact ⟨0, Nat.zero_le _, rfl, K0⟩
  case round =>
    obtain ⟨k, hk, rfl, HK⟩ := hrel
    by_cases hlt : k < n
    · have hk' : k < L.length := by rw [H0.out]; exact hlt
      obtain ⟨⟨ha0, hb0⟩, ⟨ha1, hb1⟩⟩ := H4.out (by omega)
      have hc0 := lies_kept (H5.out k hk').1 hb0 HK.out
      have hc1 := lies_kept (H5.out k hk').2 hb1 HK.out
      have HK2 : Hid (Kept w wr.drew) := kept_drew HK.out
      generalize L[k] = r at *
      have hE := eq_self r
      obtain ⟨c0, c1, c2, c3, c4, c5, c6, c7⟩ := hc0
      obtain ⟨d0, d1, d2, d3, d4, d5, d6, d7⟩ := hc1
      subst ha0 ha1
      go_wp2
      go_quiet (fail)
      go_wp2
      go_roundw
      case rel => exact ⟨k + 1, by omega, by go_num, HK2⟩
      case measure => simp [intOf]; omega
    · go_wp2
      go_ret
      exact ⟨rfl, HK.out⟩
end Go.Proofs.YtlbpmehlfihpbaaDoor
