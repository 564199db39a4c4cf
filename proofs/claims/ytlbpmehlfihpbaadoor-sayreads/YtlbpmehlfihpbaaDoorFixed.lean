/- The contracts of the law's own functions: the chapter's examples, and whether records are more than is gone through. They turn nothing that was there. -/
import Derived.Test.YtlbpmehlfihpbaaDoorRead
import Derived.Test.YtlbpmehlfihpbaaDoorItems
namespace Go.Proofs.YtlbpmehlfihpbaaDoor
open Go.ChangeShapes Go.WideShapes Go.ChangeAt Go.RowKit
set_option linter.unusedVariables false
set_option linter.unusedSimpArgs false

theorem read_bad (s : ByteArray) (z : Int) (h : z < 0 ∨ (s.size : Int) < z) (w : World) :
    Calls Tryd.prog 14 #[.string s, .int .i64 z] w fun e w' => e = .returned (.tuple #[.slice none 0 0, .int .i64 0, .int .i64 1]) ∧ w' = w := by
  by_cases h1 : z < 0
  · clear h
    go_enter Tryd.func14, Tryd.ntmps14
    go_wp2
    go_ret3
    exact ⟨rfl, rfl⟩
  · have h2 : (s.size : Int) < z := h.resolve_left h1
    clear h
    go_enter Tryd.func14, Tryd.ntmps14
    go_wp2
    go_ret3
    exact ⟨rfl, rfl⟩
theorem own_form {w : World} {B e s n : Nat} {v : Value} {xs : List Value} (h : w.ownsRow B e s v n xs) : ∃ oa cap, v = .slice oa n cap := by
  rcases h.2 with ⟨h1, rfl⟩ | ⟨g, cap, cur, h1, -⟩
  · exact ⟨none, 0, h1⟩
  · exact ⟨_, cap, h1⟩
/- A row of records that the call itself has made. -/
theorem row_own {w : World} {B n : Nat} {v : Value} {L : List R} (h : w.ownsRow B 45 8 v n (flat L)) (hn : L.length = n) (hok : ∀ r ∈ L, r.ok) : ∃ oa cap b, v = .slice oa n cap ∧ Row w oa n cap b 0 L := by
  have hl := h.1
  rcases h.2 with ⟨h1, h2⟩ | ⟨g, cap, cur, h1, h2, h3, h4, h5, h6⟩
  · refine ⟨none, 0, 0, by rw [h1, h2], hn, by omega, by unfold maxLen; omega, fun _ => rfl, fun hp => by omega, fun i hi => by omega⟩
  · refine ⟨_, cap, g, h1, hn, h4, h5, (fun e => by cases e), fun _ => ⟨rfl, (Array.getElem?_eq_some_iff.1 h3).1⟩, fun i hi => ⟨hok _ (List.getElem_mem hi), ?_⟩⟩
    rw [h1] at h
    have := own_lies h i hi
    rw [Nat.zero_add]
    exact this
def greatR (r : R) : Bool := decide (3000 < r.key.size) || decide (3000 < r.body.size)
def greatL (L : List R) : Bool := decide (100 < L.length) || L.any greatR
set_option maxHeartbeats 1600000 in
set_option maxRecDepth 100000 in
theorem great_any (oa : Option Addr) (len cap b o : Nat) (L : List R) (w : World) (hR : Row w oa len cap b o L) :
    Calls Tryd.prog 8 #[.slice oa len cap] w fun e w' => e = .returned (.bool (greatL L)) ∧ Kept w w' := by
  have hz := zero45
  obtain ⟨h0, h1, h2, -, h4, h5⟩ := hR
  have H0 : Hid (L.length = len) := h0
  have H4 : Hid (0 < len → oa = some ⟨b, o, none⟩ ∧ b < w.heap.size) := h4
  have H5 : Hid (∀ i (h : i < L.length), L[i].ok ∧ Lies w b (o + i * 8) L[i]) := h5
  have hm : len ≤ 9223372036854775807 := by unfold maxLen at h2; omega
  have K0 := hid (kept_refl w)
  clear h2 h4 h5
  by_cases hlen : (100 : Int) < (len : Int)
  · have HE : Hid (true = greatL L) := by
      show _ = _
      unfold greatL
      rw [h0, decide_eq_true (by omega)]; rfl
    clear h0
    go_enter Tryd.func8, Tryd.ntmps8
    go_wp2
    go_ret
    exact ⟨ret_bool HE.out, K0.out⟩
  · have HD : Hid (greatL L = L.any greatR) := by
      show _ = _
      unfold greatL
      rw [h0, decide_eq_false (by omega)]; rfl
    have d1 : decide ((100 : Int) < (len : Int)) = false := decide_eq_false hlen
    clear h0 hlen
    go_enter Tryd.func8, Tryd.ntmps8
    go_wp2
    go_loopw [4, 10] (fun i j wr => ∃ k : Nat, k ≤ len ∧ j = .int .i64 k ∧ Hid (Kept w wr) ∧ Hid (∀ q (hq : q < L.length), q < k → greatR L[q] = false)) (fun _ j _ => len - (intOf j).toNat)
    case atStart => exact ⟨0, Nat.zero_le _, rfl, K0, fun q _ hq => absurd hq (by omega)⟩
    case round =>
      obtain ⟨k, hk, rfl, HK, HG⟩ := hrel
      by_cases hlt : k < len
      · have hk' : k < L.length := by rw [H0.out]; exact hlt
        obtain ⟨hoa, hb⟩ := H4.out (by omega)
        have hcell := lies_kept (H5.out k hk').2 hb HK.out
        have HK2 : Hid (Kept w (wr.alloc (.cells #[.string L[k].key, .int .u64 L[k].s.p, .int .u32 L[k].s.l, .int .u8 L[k].s.n, .int .u8 L[k].kind, .int .u32 L[k].flags, .int .u64 L[k].exp, .string L[k].body] 45))) := kept_alloc HK.out _
        have HA : Hid (greatR L[k] = true → true = greatL L) := fun h => by rw [HD.out]; exact (List.any_eq_true.2 ⟨L[k], List.getElem_mem hk', h⟩).symm
        have HN : Hid (greatR L[k] = false → ∀ q (hq : q < L.length), q < k + 1 → greatR L[q] = false) := fun h q hq hl => by
          rcases (show q < k ∨ q = k by omega) with h1 | rfl
          · exact HG.out q hq h1
          · exact h
        generalize L[k] = r at *
        obtain ⟨c0, c1, c2, c3, c4, c5, c6, c7⟩ := hcell
        subst hoa
        by_cases h1 : (3000 : Int) < (r.key.size : Int)
        · have HE : Hid (true = greatL L) := HA.out (by unfold greatR; simp; omega)
          go_wp2
          go_ret
          exact ⟨ret_bool HE.out, HK2.out⟩
        · by_cases h2 : (3000 : Int) < (r.body.size : Int)
          · have HE : Hid (true = greatL L) := HA.out (by unfold greatR; simp; omega)
            go_wp2
            go_ret
            exact ⟨ret_bool HE.out, HK2.out⟩
          · have HE := HN.out (by unfold greatR; simp; omega)
            have HE2 := hid HE
            clear HE
            go_wp2
            go_roundw
            case rel => exact ⟨k + 1, by omega, by go_num, HK2, HE2⟩
            case measure => simp [intOf]; omega
      · have HE : Hid (false = greatL L) := by
          show _ = _
          rw [HD.out]
          symm
          rw [List.any_eq_false]
          intro x hx
          obtain ⟨q, hq, rfl⟩ := List.getElem_of_mem hx
          rw [HG.out q hq (by have := H0.out; omega)]
          simp
        go_wp2
        go_ret
        exact ⟨ret_bool HE.out, HK.out⟩
theorem not_great {L : List R} (h : greatL L = false) : L.length ≤ 100 ∧ ∀ r ∈ L, r.key.size ≤ 3000 ∧ r.body.size ≤ 3000 := by
  unfold greatL at h
  simp only [Bool.or_eq_false_iff, decide_eq_false_iff_not, List.any_eq_false] at h
  refine ⟨by omega, fun r hr => ?_⟩
  have := h.2 r hr
  unfold greatR at this
  simp at this
  omega
theorem end_read (w : World) (hB : Base w) : Calls Tryd.prog 14 #[.string ⟨#[69, 78, 68, 13, 10]⟩, .int .i64 0] w fun e w' => ∃ oa cap, e = .returned (.tuple #[.slice oa 0 cap, .int .i64 5, .int .i64 0]) ∧ Kept w w' := by
  have h := read_at ⟨#[69, 78, 68, 13, 10]⟩ 0 (Nat.zero_le _) (by simp [ByteArray.size]) w hB
  have e0 : readOf ((⟨#[69, 78, 68, 13, 10]⟩ : ByteArray).data.toList.drop 0) = .ok [] [] := by
    have := read_done (step_end [])
    simpa [endL] using this
  rw [e0] at h
  refine h.mono ?_
  rintro e w' ⟨hk, v, rfl, ho⟩
  obtain ⟨oa, cap, rfl⟩ := own_form ho
  exact ⟨oa, cap, rfl, hk⟩
def exR : R := ⟨⟨#[97]⟩, zeroS, 3, 5, 0, ⟨#[120, 121]⟩⟩
theorem ex_items : (⟨(itemsR [exR]).toArray⟩ : ByteArray) = ⟨#[86, 65, 76, 85, 69, 32, 97, 32, 53, 32, 50, 13, 10, 120, 121, 13, 10, 69, 78, 68, 13, 10]⟩ := by
  apply bytes_ext
  rw [mk_list]
  have h5 : dec 5 = [53] := dec_low (by omega)
  have h2 : dec 2 = [50] := dec_low (by omega)
  simp [itemsR, itemR, itemL, firstL, first3, exR, endL, h5, h2]
set_option maxHeartbeats 1600000 in
set_option maxRecDepth 100000 in
theorem fixed_any (w : World) (hB : Base w) : Calls Tryd.prog 9 #[] w fun e w' => e = .returned (.bool true) ∧ Kept w w' := by
  have hz := zero45
  have HB := hid hB
  have HA := at_new w #[.string exR.key, .int .u64 exR.s.p, .int .u32 exR.s.l, .int .u8 exR.s.n, .int .u8 exR.kind, .int .u32 exR.flags, .int .u64 exR.exp, .string exR.body] 45
  have HK := hid (kept_alloc (kept_refl w) (.cells #[.string exR.key, .int .u64 exR.s.p, .int .u32 exR.s.l, .int .u8 exR.s.n, .int .u8 exR.kind, .int .u32 exR.flags, .int .u64 exR.exp, .string exR.body] 45))
  have hRow : Row (w.alloc (.cells #[.string exR.key, .int .u64 exR.s.p, .int .u32 exR.s.l, .int .u8 exR.s.n, .int .u8 exR.kind, .int .u32 exR.flags, .int .u64 exR.exp, .string exR.body] 45)) (some ⟨w.heap.size, 0, none⟩) 1 1 w.heap.size 0 [exR] := by
    refine ⟨rfl, Nat.le_refl _, by unfold maxLen; omega, (fun e => by cases e), fun _ => ⟨rfl, at_lt HA⟩, fun i hi => ?_⟩
    have h0 : i = 0 := by simpa using hi
    subst h0
    obtain ⟨c0, c1, c2, c3, c4, c5, c6, c7⟩ := cells8 HA
    refine ⟨⟨by unfold maxLen exR; simp [ByteArray.size], by simp [exR], by unfold maxLen exR; simp [ByteArray.size]⟩, ?_⟩
    exact ⟨c0, c1, c2, c3, c4, c5, c6, c7⟩
  have hI : Calls Tryd.prog 10 #[.slice (some ⟨w.heap.size, 0, none⟩) 1 1] (w.alloc (.cells #[.string ⟨#[97]⟩, .int .u64 0, .int .u32 0, .int .u8 0, .int .u8 3, .int .u32 5, .int .u64 0, .string ⟨#[120, 121]⟩] 45)) fun e w' => e = .returned (.string ⟨#[86, 65, 76, 85, 69, 32, 97, 32, 53, 32, 50, 13, 10, 120, 121, 13, 10, 69, 78, 68, 13, 10]⟩) ∧ Kept (w.alloc (.cells #[.string exR.key, .int .u64 exR.s.p, .int .u32 exR.s.l, .int .u8 exR.s.n, .int .u8 exR.kind, .int .u32 exR.flags, .int .u64 exR.exp, .string exR.body] 45)) w' := by
    have := Items_any (some ⟨w.heap.size, 0, none⟩) 1 1 w.heap.size 0 [exR] _ (base_kept hB HK.out) hRow (by simp [itemR, itemL, firstL, first3, exR, dec_low (show 5 < 10 by omega), dec_low (show 2 < 10 by omega)])
    rw [ex_items] at this
    exact this
  clear hRow HA hB
  go_enter Tryd.func9, Tryd.ntmps9
  go_wp2_with fail
  refine hI.mono ?_
  rintro e w1 ⟨rfl, hk1⟩
  have HK1 := hid (kept_trans HK.out hk1)
  have hR := end_read w1 (base_kept HB.out HK1.out)
  clear hI hk1 HK
  go_wp2_with fail
  refine hR.mono ?_
  rintro e w2 ⟨oa, cap, rfl, hk2⟩
  have HK2 := hid (kept_trans HK1.out hk2)
  clear hR hk2 HK1
  go_wp2
  go_ret
  exact ⟨rfl, HK2.out⟩
end Go.Proofs.YtlbpmehlfihpbaaDoor
