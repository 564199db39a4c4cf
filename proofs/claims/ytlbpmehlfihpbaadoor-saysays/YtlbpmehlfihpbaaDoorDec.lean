/- The contract of the reference's function that writes a number in digits. It turns nothing that was there. -/
import Derived.Test.YtlbpmehlfihpbaaDoorSay
namespace Go.Proofs.YtlbpmehlfihpbaaDoor
open Go.ChangeShapes Go.WideShapes Go.ChangeAt Go.RowKit
set_option linter.unusedVariables false
set_option linter.unusedSimpArgs false

theorem one_text {w : World} {B : Nat} {c : UInt8} (h : At w B #[.int .u8 (c.toNat : Int)] 5) : (convert 51 9 (.slice (some ⟨B, 0, none⟩) 1 1)).run Tryd.prog w = .ok (.string ⟨#[c]⟩) w := by
  have := run_convert_bytes_back (P := Tryd.prog) w 51 9 5 ⟨B, 0, none⟩ 1 [c] Tryd.underlying51 Tryd.underlying5 Tryd.underlying9 (fun j hj => by
    have h0 : j = 0 := by simpa using hj
    subst h0
    have := at_cell h 0
    simpa [Addr.add] using this)
  exact this
def fin (m : Nat) (t : List UInt8) : List UInt8 := if m = 0 then t else dec m ++ t
theorem fin_first (n : Nat) : fin (n / 10) [UInt8.ofNat (48 + n % 10)] = dec n := by
  unfold fin
  by_cases h : n < 10
  · rw [if_pos (by omega), dec_low h, Nat.mod_eq_of_lt h]
  · rw [if_neg (by omega), dec_more h]
theorem fin_next {m : Nat} (h : m ≠ 0) (t : List UInt8) : fin (m / 10) (UInt8.ofNat (48 + m % 10) :: t) = fin m t := by
  have := fin_first m
  unfold fin at *
  rw [if_neg h, ← this]
  by_cases h1 : m / 10 = 0
  · rw [if_pos h1, if_pos h1]; rfl
  · rw [if_neg h1, if_neg h1]; simp
set_option maxHeartbeats 1600000 in
set_option maxRecDepth 100000 in
theorem Decimal_any (n : Nat) (hn : n < 18446744073709551616) (w : World) :
    Calls Tryd.prog 23 #[.int .u64 (n : Int)] w fun e w' => e = .returned (.string ⟨(dec n).toArray⟩) ∧ Kept w w' := by
  obtain ⟨q, hq⟩ : ∃ q, q = n / 10 := ⟨_, rfl⟩
  obtain ⟨r, hr⟩ : ∃ r, r = n % 10 := ⟨_, rfl⟩
  obtain ⟨c, hc⟩ : ∃ c, c = UInt8.ofNat (48 + r) := ⟨_, rfl⟩
  have hcn := byte_of r (by omega)
  rw [← hc] at hcn
  have HF : Hid (fin q [c] = dec n) := by show _ = _; rw [hq, hc, hr]; exact fin_first n
  have e1 : Int.tdiv (n : Int) 10 = (q : Int) := by rw [hq]; rfl
  have e2 : Int.tmod (n : Int) 10 = (r : Int) := by rw [hr]; rfl
  have hw : IntKind.u8.wrap (48 + (r : Int)) = (c.toNat : Int) := by rw [IntKind.wrap_u8]; omega
  have hw1 : IntKind.u64.wrap (48 + (r : Int)) = 48 + (r : Int) := by rw [IntKind.wrap_u64]; omega
  have hw2 : IntKind.u64.wrap (r : Int) = (r : Int) := by rw [IntKind.wrap_u64]; omega
  have hw3 : IntKind.u64.wrap (q : Int) = (q : Int) := by rw [IntKind.wrap_u64]; omega
  have hcv := one_text (at_new w #[.int .u8 (c.toNat : Int)] 5)
  have HK := hid (kept_alloc (kept_refl w) (.cells #[.int .u8 (c.toNat : Int)] 5))
  have hqn : q < 18446744073709551616 := by omega
  have HQ := hid hqn
  have HL : Hid (([c] : List UInt8).length + (if q = 0 then 0 else (dec q).length) ≤ 30) := by
    show _ ≤ _
    have := dec_len 20 q (by omega) (by omega)
    split <;> simp <;> omega
  have Hn := hid hn
  clear hc hcn hq hqn hn hr
  go_enter Tryd.func23, Tryd.ntmps23
  go_wp2
  generalize w.alloc (.cells #[.int .u8 (c.toNat : Int)] 5) = wa at *
  clear e1 e2 hw hw1 hw2 hw3 hcv
  go_loopw [0, 3] (fun v0 v3 wr => ∃ (m : Nat) (t : List UInt8), v0 = .int .u64 (m : Int) ∧ v3 = .string ⟨t.toArray⟩ ∧ Hid (fin m t = dec n) ∧ Hid (m < 18446744073709551616) ∧ Hid (t.length + (if m = 0 then 0 else (dec m).length) ≤ 30) ∧ Hid (Kept w wr)) (fun v0 _ _ => (intOf v0).toNat)
  case atStart => exact ⟨q, [c], rfl, rfl, HF, HQ, HL, HK⟩
  case round =>
    obtain ⟨m, t, rfl, rfl, HF, HQ, HL, HK⟩ := hrel
    by_cases hm : m = 0
    · subst hm
      have HE : Hid (t = dec n) := by
        have := HF.out
        unfold fin at this
        rw [if_pos rfl] at this
        exact this
      go_wp2
      go_ret
      exact ⟨by rw [HE.out]; rfl, HK.out⟩
    · have hpos : (0 : Int) < (m : Int) := by omega
      obtain ⟨q2, hq⟩ : ∃ q, q = m / 10 := ⟨_, rfl⟩
      obtain ⟨r2, hr⟩ : ∃ r, r = m % 10 := ⟨_, rfl⟩
      obtain ⟨c2, hc⟩ : ∃ c, c = UInt8.ofNat (48 + r2) := ⟨_, rfl⟩
      have hcn := byte_of r2 (by omega)
      rw [← hc] at hcn
      have HF2 : Hid (fin q2 (c2 :: t) = dec n) := by show _ = _; rw [hq, hc, hr, fin_next hm]; exact HF.out
      have e1 : Int.tdiv (m : Int) 10 = (q2 : Int) := by rw [hq]; rfl
      have e2 : Int.tmod (m : Int) 10 = (r2 : Int) := by rw [hr]; rfl
      have hlt := HQ.out
      have hw : IntKind.u8.wrap (48 + (r2 : Int)) = (c2.toNat : Int) := by rw [IntKind.wrap_u8]; omega
      have hw1 : IntKind.u64.wrap (48 + (r2 : Int)) = 48 + (r2 : Int) := by rw [IntKind.wrap_u64]; omega
      have hw2 : IntKind.u64.wrap (r2 : Int) = (r2 : Int) := by rw [IntKind.wrap_u64]; omega
      have hw3 : IntKind.u64.wrap (q2 : Int) = (q2 : Int) := by rw [IntKind.wrap_u64]; omega
      have hcv := one_text (at_new wr #[.int .u8 (c2.toNat : Int)] 5)
      have HK2 := hid (kept_alloc HK.out (.cells #[.int .u8 (c2.toNat : Int)] 5))
      have HQ2 : Hid (q2 < 18446744073709551616) := by show _ < _; omega
      have HL2 : Hid ((c2 :: t).length + (if q2 = 0 then 0 else (dec q2).length) ≤ 30) := by
        show _ ≤ _
        have h1 := HL.out
        rw [if_neg hm] at h1
        have h2 : (dec m).length = (if q2 = 0 then 0 else (dec q2).length) + 1 := by
          have h3 := congrArg List.length (fin_first m)
          rw [← hq] at h3
          unfold fin at h3
          by_cases h0 : q2 = 0
          · rw [if_pos h0] at h3 ⊢
            simpa using h3.symm
          · rw [if_neg h0] at h3 ⊢
            simpa using h3.symm
        rw [List.length_cons]
        omega
      have hts : t.length ≤ 30 := by have := HL.out; omega
      have hsz : (⟨t.toArray⟩ : ByteArray).size = t.length := mk_size t
      have hs1 : (⟨#[c2]⟩ : ByteArray).size = 1 := rfl
      have hcat : (⟨#[c2]⟩ : ByteArray) ++ ⟨t.toArray⟩ = ⟨(c2 :: t).toArray⟩ := by
        apply bytes_ext
        simp
      have HM : Hid (q2 < m) := by show _ < _; omega
      clear hc hcn hq hr hlt HL HQ HF hm
      go_wp2
      go_roundw
      case rel => exact ⟨q2, c2 :: t, rfl, by rw [← hcat], HF2, HQ2, HL2, HK2⟩
      case measure => simp [intOf]; exact HM.out
end Go.Proofs.YtlbpmehlfihpbaaDoor
