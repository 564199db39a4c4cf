/- The reference's orders of stamps and of records; records held against each other, field by field. -/
import Derived.Test.YtahgplfkgijecaaHtCut
import Derived.BigQuiet
namespace Go.Proofs.Ytahgplfkgijecaa
open Go.ChangeShapes Go.WideShapes Go.ChangeAt Go.RowKit
set_option linter.unusedVariables false
set_option linter.unusedSimpArgs false

theorem ret_bool {a b : Bool} (h : a = b) : Ending.returned (.bool a) = .returned (.bool b) := by rw [h]
theorem lt_first {a b : Stp} (h : a.p ≠ b.p) : decide (a.p < b.p) = lt a b := by
  rw [Bool.eq_iff_iff, lt_iff]; unfold Lt; simp; omega
theorem lt_second {a b : Stp} (h : a.p = b.p) (k : a.l ≠ b.l) : decide (a.l < b.l) = lt a b := by
  rw [Bool.eq_iff_iff, lt_iff]; unfold Lt; simp; omega
theorem lt_third {a b : Stp} (h : a.p = b.p) (k : a.l = b.l) : decide (a.n < b.n) = lt a b := by
  rw [Bool.eq_iff_iff, lt_iff]; unfold Lt; simp; omega
theorem bytes_ext (s t : ByteArray) (h : s.data.toList = t.data.toList) : s = t := by
  cases s; cases t
  congr
  exact Array.toList_inj.1 h
theorem less_any (a b : Stp) (w : World) :
    Calls Try.prog 24 #[.agg #[.int .u64 a.p, .int .u32 a.l, .int .u8 a.n], .agg #[.int .u64 b.p, .int .u32 b.l, .int .u8 b.n]] w fun e w' => e = .returned (.bool (lt a b)) ∧ Kept w w' := by
  have HK : Hid (Kept w ((w.alloc (.cells #[.int .u64 a.p, .int .u32 a.l, .int .u8 a.n] 33)).alloc (.cells #[.int .u64 b.p, .int .u32 b.l, .int .u8 b.n] 33))) := kept_alloc (kept_alloc (kept_refl w) _) _
  by_cases h1 : a.p = b.p
  · by_cases h2 : a.l = b.l
    · have g1 : (a.p != b.p) = false := by simpa using h1
      have g2 : (a.l != b.l) = false := by simpa using h2
      have H : Hid (decide (a.n < b.n) = lt a b) := lt_third h1 h2
      clear h1 h2
      go_enter Try.func24, Try.ntmps24
      go_wp2
      go_ret
      exact ⟨ret_bool H.out, HK.out⟩
    · have g1 : (a.p != b.p) = false := by simpa using h1
      have g2 : (a.l != b.l) = true := by simpa using h2
      have H : Hid (decide (a.l < b.l) = lt a b) := lt_second h1 h2
      clear h1 h2
      go_enter Try.func24, Try.ntmps24
      go_wp2
      go_ret
      exact ⟨ret_bool H.out, HK.out⟩
  · have g1 : (a.p != b.p) = true := by simpa using h1
    have H : Hid (decide (a.p < b.p) = lt a b) := lt_first h1
    clear h1
    go_enter Try.func24, Try.ntmps24
    go_wp2
    go_ret
    exact ⟨ret_bool H.out, HK.out⟩
theorem eq_stamp (a b : Stp) (w : World) : (Op.equalIn 10000 33 (.agg #[.int .u64 a.p, .int .u32 a.l, .int .u8 a.n]) (.agg #[.int .u64 b.p, .int .u32 b.l, .int .u8 b.n])).run Try.prog w = .ok (same a b) w := by
  go_simp
  unfold same
  by_cases h1 : a.p = b.p <;> by_cases h2 : a.l = b.l <;> by_cases h3 : a.n = b.n <;> simp [h1, h2, h3]
theorem cb_take : ∀ (k : Nat) (a b : List UInt8), a.take k = b.take k → k ≤ a.length → k ≤ b.length → Lib.compareBytes a b = Lib.compareBytes (a.drop k) (b.drop k)
  | 0, a, b, _, _, _ => by simp
  | k + 1, [], b, _, h, _ => by simp at h
  | k + 1, _ :: _, [], _, _, h => by simp at h
  | k + 1, x :: a, y :: b, h, h1, h2 => by
    simp only [List.take_succ_cons, List.cons.injEq] at h
    obtain ⟨rfl, h⟩ := h
    have ih := cb_take k a b h (by simpa using h1) (by simpa using h2)
    have hx : ¬ x < x := by rw [UInt8.lt_iff_toNat_lt]; omega
    simp only [List.drop_succ_cons]
    rw [← ih]
    conv => lhs; unfold Lib.compareBytes
    rw [if_neg hx, if_neg hx]
/- The first bytes are the same, the next ones tell. -/
theorem cmpB_at {a b : ByteArray} {k : Nat} (ha : k < a.size) (hb : k < b.size) (h : a.data.toList.take k = b.data.toList.take k) (hne : a[k].toNat ≠ b[k].toNat) : (cmpB a b = -1) ↔ a[k].toNat < b[k].toNat := by
  have ha' : k < a.data.toList.length := by simpa using ha
  have hb' : k < b.data.toList.length := by simpa using hb
  unfold cmpB
  rw [cb_take k _ _ h (by omega) (by omega), List.drop_eq_getElem_cons ha', List.drop_eq_getElem_cons hb']
  have e1 : a.data.toList[k] = a[k] := rfl
  have e2 : b.data.toList[k] = b[k] := rfl
  rw [e1, e2]
  unfold Lib.compareBytes
  by_cases h1 : a[k].toNat < b[k].toNat
  · rw [if_pos (UInt8.lt_iff_toNat_lt.2 h1)]; simp [h1]
  · rw [if_neg (fun h => h1 (UInt8.lt_iff_toNat_lt.1 h)), if_pos (UInt8.lt_iff_toNat_lt.2 (by omega))]; simp [h1]
theorem cmpB_end {a b : ByteArray} {k : Nat} (h : a.data.toList.take k = b.data.toList.take k) (ha : k ≤ a.size) (hb : k ≤ b.size) (he : k = a.size ∨ k = b.size) : (cmpB a b = -1) ↔ a.size < b.size := by
  have sa : a.size = a.data.toList.length := by simp
  have sb : b.size = b.data.toList.length := by simp
  unfold cmpB
  rw [cb_take k _ _ h (by omega) (by omega)]
  rcases he with he | he
  · rw [List.drop_of_length_le (by omega : a.data.toList.length ≤ k)]
    by_cases h2 : k < b.data.toList.length
    · rw [List.drop_eq_getElem_cons h2]; simp [Lib.compareBytes]; omega
    · rw [List.drop_of_length_le (by omega : b.data.toList.length ≤ k)]; simp [Lib.compareBytes]; omega
  · rw [List.drop_of_length_le (by omega : b.data.toList.length ≤ k)]
    by_cases h2 : k < a.data.toList.length
    · rw [List.drop_eq_getElem_cons h2]; simp [Lib.compareBytes]; omega
    · rw [List.drop_of_length_le (by omega : a.data.toList.length ≤ k)]; simp [Lib.compareBytes]; omega
theorem text_next {a b : ByteArray} {k : Nat} (ha : k < a.size) (hb : k < b.size) (h : a.data.toList.take k = b.data.toList.take k) (he : a[k].toNat = b[k].toNat) : a.data.toList.take (k + 1) = b.data.toList.take (k + 1) := by
  rw [take_snoc a k ha, take_snoc b k hb, h]
  congr 2
  exact UInt8.toNat_inj.1 he
theorem eq_decide {p : Prop} [Decidable p] {b : Prop} [Decidable b] (h : b ↔ p) : decide p = decide b := by
  by_cases hp : p
  · rw [decide_eq_true hp, decide_eq_true (h.2 hp)]
  · rw [decide_eq_false hp, decide_eq_false (fun x => hp (h.1 x))]
set_option maxHeartbeats 1600000 in
set_option maxRecDepth 100000 in
theorem ahead_text (a b : ByteArray) (ha : a.size ≤ maxLen) (hb : b.size ≤ maxLen) (w : World) :
    Calls Try.prog 42 #[.string a, .string b] w fun e w' => e = .returned (.bool (decide (cmpB a b = -1))) ∧ Kept w w' := by
  unfold maxLen at ha hb
  have K0 : Hid (Kept w w) := kept_refl w
  go_enter Try.func42, Try.ntmps42
  go_wp2
  go_loopw [5] (fun j wr => ∃ k : Nat, k ≤ a.size ∧ k ≤ b.size ∧ j = .int .i64 k ∧ Hid (Kept w wr) ∧ Hid (a.data.toList.take k = b.data.toList.take k)) (fun j _ => a.size - (intOf j).toNat)
  case atStart => exact ⟨0, Nat.zero_le _, Nat.zero_le _, rfl, K0, rfl⟩
  case round =>
    obtain ⟨k, hka, hkb, rfl, HK, HT⟩ := hrel
    by_cases h1 : k < a.size
    · by_cases h2 : k < b.size
      · by_cases h3 : a[k].toNat = b[k].toNat
        · have HN : Hid (a.data.toList.take (k + 1) = b.data.toList.take (k + 1)) := text_next h1 h2 HT.out h3
          have h3' : (((a[k].toNat : Int)) != (b[k].toNat : Int)) = false := by simp [h3]
          have HK2 : Hid (Kept w wr.drew) := kept_drew HK.out
          clear h3
          go_wp2
          go_quiet (fail)
          go_wp2
          go_roundw
          case rel => exact ⟨k + 1, by omega, by omega, by go_num, HK2, HN⟩
          case measure => simp [intOf]; omega
        · have HE : Hid (decide (a[k].toNat < b[k].toNat) = decide (cmpB a b = -1)) := by
            show _ = _
            have := cmpB_at h1 h2 HT.out h3
            exact eq_decide this
          have h3' : (((a[k].toNat : Int)) != (b[k].toNat : Int)) = true := by simp; omega
          have HK2 : Hid (Kept w wr.drew.drew) := kept_drew (kept_drew HK.out)
          clear h3
          go_wp2
          go_quiet (fail)
          go_wp2
          go_quiet (fail)
          go_wp2
          go_ret
          exact ⟨ret_bool HE.out, HK2.out⟩
      · have HE : Hid (decide (a.size < b.size) = decide (cmpB a b = -1)) := by
          show _ = _
          exact eq_decide (cmpB_end HT.out hka hkb (.inr (by omega)))
        go_wp2
        go_ret
        exact ⟨ret_bool HE.out, HK.out⟩
    · have HE : Hid (decide (a.size < b.size) = decide (cmpB a b = -1)) := by
        show _ = _
        exact eq_decide (cmpB_end HT.out hka hkb (.inl (by omega)))
      go_wp2
      go_ret
      exact ⟨ret_bool HE.out, HK.out⟩
def lessR (a b : R) : Bool := decide (cmpR a b = -1)
theorem orI_of {x y : Int} (h : x = 0) : orI x y = y := by unfold orI; rw [if_pos h]
theorem orI_ne {x y : Int} (h : x ≠ 0) : orI x y = x := by unfold orI; rw [if_neg h]
theorem less_1 {a b : R} (h : a.s ≠ b.s) : lt a.s b.s = lessR a b := by
  have h0 : cmp a.s b.s ≠ 0 := fun e => h ((cmp_zero _ _).1 e)
  unfold lessR cmpR
  rw [orI_ne h0, Bool.eq_iff_iff, lt_iff, decide_eq_true_iff]
  constructor
  · exact cmp_lt
  · intro e
    rcases cmp_parts a.s b.s with ⟨p, -⟩ | ⟨-, q⟩ | ⟨-, q⟩
    · exact p
    · omega
    · omega
theorem less_2 {a b : R} (h : a.s = b.s) (h2 : a.kind ≠ b.kind) : decide (a.kind < b.kind) = lessR a b := by
  have h0 : cmpI a.kind b.kind ≠ 0 := fun e => h2 ((cmpI_zero _ _).1 e)
  unfold lessR cmpR
  rw [orI_of ((cmp_zero _ _).2 h), orI_ne h0]
  have := cmpI_cases a.kind b.kind
  exact eq_decide (by omega)
theorem less_3 {a b : R} (h : a.s = b.s) (h2 : a.kind = b.kind) (h3 : a.body ≠ b.body) : decide (cmpB a.body b.body = -1) = lessR a b := by
  have h0 : cmpB a.body b.body ≠ 0 := fun e => h3 ((cmpB_zero _ _).1 e)
  unfold lessR cmpR
  rw [orI_of ((cmp_zero _ _).2 h), orI_of ((cmpI_zero _ _).2 h2), orI_ne h0]
theorem less_4 {a b : R} (h : a.s = b.s) (h2 : a.kind = b.kind) (h3 : a.body = b.body) (h4 : a.flags ≠ b.flags) : decide (a.flags < b.flags) = lessR a b := by
  have h0 : cmpI a.flags b.flags ≠ 0 := fun e => h4 ((cmpI_zero _ _).1 e)
  unfold lessR cmpR
  rw [orI_of ((cmp_zero _ _).2 h), orI_of ((cmpI_zero _ _).2 h2), orI_of ((cmpB_zero _ _).2 h3), orI_ne h0]
  have := cmpI_cases a.flags b.flags
  exact eq_decide (by omega)
theorem less_5 {a b : R} (h : a.s = b.s) (h2 : a.kind = b.kind) (h3 : a.body = b.body) (h4 : a.flags = b.flags) : decide (a.exp < b.exp) = lessR a b := by
  unfold lessR cmpR
  rw [orI_of ((cmp_zero _ _).2 h), orI_of ((cmpI_zero _ _).2 h2), orI_of ((cmpB_zero _ _).2 h3), orI_of ((cmpI_zero _ _).2 h4)]
  have := cmpI_cases a.exp b.exp
  exact eq_decide (by omega)
theorem bytes_ne {a b : ByteArray} (h : a ≠ b) : (!a.toList == b.toList) = true := by
  rw [ByteArray.toList_eq, ByteArray.toList_eq]
  have : (a.data.toList == b.data.toList) = false := by
    rw [beq_eq_false_iff_ne]
    exact fun e => h (bytes_ext _ _ e)
  rw [this]; rfl
theorem bytes_eq {a b : ByteArray} (h : a = b) : (!a.toList == b.toList) = false := by
  subst h; simp
set_option maxHeartbeats 1600000 in
theorem refLess_any (a b : R) (ha : a.body.size ≤ maxLen) (hb : b.body.size ≤ maxLen) (w : World) :
    Calls Try.prog 23 #[.agg #[.string a.key, .int .u64 a.s.p, .int .u32 a.s.l, .int .u8 a.s.n, .int .u8 a.kind, .int .u32 a.flags, .int .u64 a.exp, .string a.body], .agg #[.string b.key, .int .u64 b.s.p, .int .u32 b.s.l, .int .u8 b.s.n, .int .u8 b.kind, .int .u32 b.flags, .int .u64 b.exp, .string b.body]] w fun e w' => e = .returned (.bool (lessR a b)) ∧ Kept w w' := by
  have K0 : Hid (Kept w ((w.alloc (.cells #[.string a.key, .int .u64 a.s.p, .int .u32 a.s.l, .int .u8 a.s.n, .int .u8 a.kind, .int .u32 a.flags, .int .u64 a.exp, .string a.body] 35)).alloc (.cells #[.string b.key, .int .u64 b.s.p, .int .u32 b.s.l, .int .u8 b.s.n, .int .u8 b.kind, .int .u32 b.flags, .int .u64 b.exp, .string b.body] 35))) := kept_alloc (kept_alloc (kept_refl w) (.cells #[.string a.key, .int .u64 a.s.p, .int .u32 a.s.l, .int .u8 a.s.n, .int .u8 a.kind, .int .u32 a.flags, .int .u64 a.exp, .string a.body] 35)) (.cells #[.string b.key, .int .u64 b.s.p, .int .u32 b.s.l, .int .u8 b.s.n, .int .u8 b.kind, .int .u32 b.flags, .int .u64 b.exp, .string b.body] 35)
  have hE := eq_stamp a.s b.s
  by_cases h1 : a.s = b.s
  · have s1 : same a.s b.s = true := (same_iff _ _).2 h1
    by_cases h2 : a.kind = b.kind
    · have s2 : (a.kind != b.kind) = false := by simpa using h2
      by_cases h3 : a.body = b.body
      · have s3 := bytes_eq h3
        by_cases h4 : a.flags = b.flags
        · have s4 : (a.flags != b.flags) = false := by simpa using h4
          have HE : Hid (decide (a.exp < b.exp) = lessR a b) := less_5 h1 h2 h3 h4
          clear h1 h2 h3 h4 ha hb
          go_enter Try.func23, Try.ntmps23
          go_wp2_with fail
          go_ret
          exact ⟨ret_bool HE.out, K0.out⟩
        · have s4 : (a.flags != b.flags) = true := by simpa using h4
          have HE : Hid (decide (a.flags < b.flags) = lessR a b) := less_4 h1 h2 h3 h4
          clear h1 h2 h3 h4 ha hb
          go_enter Try.func23, Try.ntmps23
          go_wp2_with fail
          go_ret
          exact ⟨ret_bool HE.out, K0.out⟩
      · have s3 := bytes_ne h3
        have HE : Hid (decide (cmpB a.body b.body = -1) = lessR a b) := less_3 h1 h2 h3
        have hA := ahead_text a.body b.body ha hb
        clear h1 h2 h3 ha hb
        go_enter Try.func23, Try.ntmps23
        go_wp2_with fail
        refine (hA _).mono ?_
        rintro e w1 ⟨rfl, k1⟩
        have K1 := kept_trans K0.out k1
        clear k1 hA
        go_wp2_with fail
        go_ret
        exact ⟨ret_bool HE.out, K1⟩
    · have s2 : (a.kind != b.kind) = true := by simpa using h2
      have HE : Hid (decide (a.kind < b.kind) = lessR a b) := less_2 h1 h2
      clear h1 h2 ha hb
      go_enter Try.func23, Try.ntmps23
      go_wp2_with fail
      go_ret
      exact ⟨ret_bool HE.out, K0.out⟩
  · have s1 : same a.s b.s = false := (same_false _ _).2 h1
    have HE : Hid (lt a.s b.s = lessR a b) := less_1 h1
    clear h1 ha hb
    go_enter Try.func23, Try.ntmps23
    go_wp2_with fail
    refine (less_any a.s b.s _).mono ?_
    rintro e w1 ⟨rfl, k1⟩
    have K1 := kept_trans K0.out k1
    clear k1
    go_wp2_with fail
    go_ret
    exact ⟨ret_bool HE.out, K1⟩
def sameT (a b : ByteArray) : Bool := a.toList == b.toList
theorem sameT_iff (a b : ByteArray) : sameT a b = true ↔ a = b := by
  unfold sameT
  rw [ByteArray.toList_eq, ByteArray.toList_eq, beq_iff_eq]
  exact ⟨fun h => bytes_ext _ _ h, fun h => by rw [h]⟩
def sameR (a b : R) : Bool := sameT a.key b.key && (same a.s b.s && (decide (a.kind = b.kind) && (decide (a.flags = b.flags) && (decide (a.exp = b.exp) && sameT a.body b.body))))
theorem sameR_iff (a b : R) : sameR a b = true ↔ a = b := by
  unfold sameR
  simp only [Bool.and_eq_true, sameT_iff, same_iff, decide_eq_true_eq]
  constructor
  · rintro ⟨h1, h2, h3, h4, h5, h6⟩; exact R.ext' h1 h2 h3 h4 h5 h6
  · rintro rfl; simp
set_option maxHeartbeats 800000 in
theorem eq_rec (a b : R) (w : World) : (Op.equalIn 10000 35 (.agg #[.string a.key, .int .u64 a.s.p, .int .u32 a.s.l, .int .u8 a.s.n, .int .u8 a.kind, .int .u32 a.flags, .int .u64 a.exp, .string a.body]) (.agg #[.string b.key, .int .u64 b.s.p, .int .u32 b.s.l, .int .u8 b.s.n, .int .u8 b.kind, .int .u32 b.flags, .int .u64 b.exp, .string b.body])).run Try.prog w = .ok (sameR a b) w := by
  go_simp
  unfold sameR sameT same
  repeat' split
  all_goals simp_all
theorem eq_self (a : R) (w : World) : (Op.equalIn 10000 35 (.agg #[.string a.key, .int .u64 a.s.p, .int .u32 a.s.l, .int .u8 a.s.n, .int .u8 a.kind, .int .u32 a.flags, .int .u64 a.exp, .string a.body]) (.agg #[.string a.key, .int .u64 a.s.p, .int .u32 a.s.l, .int .u8 a.s.n, .int .u8 a.kind, .int .u32 a.flags, .int .u64 a.exp, .string a.body])).run Try.prog w = .ok true w := by
  rw [eq_rec, (sameR_iff a a).2 rfl]
end Go.Proofs.Ytahgplfkgijecaa
