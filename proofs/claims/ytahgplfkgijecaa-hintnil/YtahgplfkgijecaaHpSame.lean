/- The reference's SameSends and Same, of two that are the same. -/
import Derived.Test.YtahgplfkgijecaaHpRows
import Derived.IntWalk
namespace Go.Proofs.Ytahgplfkgijecaa
open Go.ChangeShapes Go.WideShapes Go.ChangeAt Go.RowKit
set_option linter.unusedVariables false
set_option linter.unusedSimpArgs false
set_option maxRecDepth 100000

def sndV (d : Snd) : Value := .agg #[.int .u8 d.to, .string d.r.key, .int .u64 d.r.s.p, .int .u32 d.r.s.l, .int .u8 d.r.s.n, .int .u8 d.r.kind, .int .u32 d.r.flags, .int .u64 d.r.exp, .string d.r.body]
set_option maxHeartbeats 800000 in
theorem eq_send (d : Snd) (w : World) : (Op.equalIn 10000 66 (.agg #[.int .u8 d.to, .string d.r.key, .int .u64 d.r.s.p, .int .u32 d.r.s.l, .int .u8 d.r.s.n, .int .u8 d.r.kind, .int .u32 d.r.flags, .int .u64 d.r.exp, .string d.r.body]) (.agg #[.int .u8 d.to, .string d.r.key, .int .u64 d.r.s.p, .int .u32 d.r.s.l, .int .u8 d.r.s.n, .int .u8 d.r.kind, .int .u32 d.r.flags, .int .u64 d.r.exp, .string d.r.body])).run Try.prog w = .ok true w := by
  go_simp
set_option maxHeartbeats 3200000 in
theorem sends_same (l : List Snd) (hn : l.length ≤ 100000) (va vb : Value) (w : World) (ha : Rg encD 9 w va l) (hb : Rg encD 9 w vb l) : Calls Try.prog 15 #[va, vb] w fun e w' => e = .returned (.bool true) ∧ Kept w w' := by
  have HA := hid ha
  have HB := hid hb
  obtain ⟨a, ca, rfl, -, -, -, -⟩ := ha
  obtain ⟨b, cb, rfl, -, -, -, -⟩ := hb
  have HG : Hid (∀ k, k < l.length → ∃ y, l[k]? = some y) := hid (fun k hk => ⟨l[k], List.getElem?_eq_getElem hk⟩)
  have HP : Hid (0 < l.length → (∃ g o, a = some ⟨g, o, none⟩) ∧ ∃ g o, b = some ⟨g, o, none⟩) := hid (fun hp => by
    obtain ⟨g, o, c, e⟩ := rg_pos HA.out hp
    obtain ⟨g', o', c', e'⟩ := rg_pos HB.out hp
    injection e with e1
    injection e' with e2
    exact ⟨⟨g, o, e1⟩, ⟨g', o', e2⟩⟩)
  generalize hm : l.length = m at *
  have hne : ((m : Int) != (m : Int)) = false := by simp
  clear hm
  go_enter Try.func15, Try.ntmps15
  go_wp2_with fail
  go_loopw [13] (fun iv wr => ∃ i : Nat, i ≤ m ∧ iv = .int .i64 (i : Int) ∧ Hid (Kept w wr)) (fun iv _ => m - (intOf iv).toNat)
  case atStart => exact ⟨0, Nat.zero_le _, rfl, hid (kept_refl _)⟩
  case round =>
    obtain ⟨i, hi, rfl, HK⟩ := hrel
    by_cases hlt : i < m
    · obtain ⟨y, hy⟩ := HG.out i hlt
      obtain ⟨⟨g1, o1, rfl⟩, ⟨g2, o2, rfl⟩⟩ := HP.out (by omega)
      obtain ⟨p0, p1, p2, p3, p4, p5, p6, p7, p8⟩ := rg_D (rg_kept encD_ok HA.out HK.out) hy
      obtain ⟨q0, q1, q2, q3, q4, q5, q6, q7, q8⟩ := rg_D (rg_kept encD_ok HB.out HK.out) hy
      have heq := eq_send y
      clear hy
      go_wp2_with fail
      go_quiet (fail)
      go_wp2_with fail
      go_roundw
      case rel => exact ⟨i + 1, by omega, by go_num, hid (kept_drewN HK.out _)⟩
      case measure => simp [intOf]; omega
    · have he : i = m := by omega
      subst he
      go_wp2_with fail
      go_ret
      exact ⟨rfl, HK.out⟩
/- A bit of who has it. -/
theorem ack_bit (f : Nat → Bool) (k : Nat) : ∀ N, k < N → ackI f N / 2 ^ k % 2 = if f k then 1 else 0
  | 0, h => by omega
  | N + 1, h => by
    show (ackI f N + (if f N then 2 ^ N else 0)) / 2 ^ k % 2 = _
    have hp : (0 : Int) < 2 ^ k := Int.pow_pos (by decide)
    by_cases e : k = N
    · subst e
      have hb := ack_bound f k
      cases hf : f k with
      | true =>
        rw [if_pos rfl, if_pos rfl]
        have : (ackI f k + 2 ^ k) / 2 ^ k = 1 := by
          rw [Int.add_ediv_of_dvd_right (Int.dvd_refl _), Int.ediv_self (by omega), Int.ediv_eq_zero_of_lt hb.1 hb.2]
          rfl
        rw [this]
        rfl
      | false =>
        simp only [Bool.false_eq_true, if_false]
        rw [Int.add_zero, Int.ediv_eq_zero_of_lt hb.1 hb.2]
        rfl
    · have ih := ack_bit f k N (by omega)
      obtain ⟨j, rfl⟩ : ∃ j, N = k + (j + 1) := ⟨N - k - 1, by omega⟩
      cases hf : f (k + (j + 1)) with
      | true =>
        rw [if_pos rfl]
        have e2 : (2 : Int) ^ (k + (j + 1)) = 2 ^ k * (2 * 2 ^ j) := by rw [Int.pow_add, Int.pow_succ, Int.mul_comm (2 ^ j) 2]
        rw [e2, Int.add_mul_ediv_left _ _ (by omega)]
        rw [← ih]
        omega
      | false =>
        simp only [Bool.false_eq_true, if_false]
        rw [Int.add_zero]
        exact ih
theorem bit_same (f : Nat → Bool) {k : Nat} (h : k < 64) : (!(((ackI f 64 / 2 ^ k).tmod 2 == 1) == f k)) = false := by
  have h1 := ack_bit f k 64 h
  have h2 := (ack_bound f 64).1
  rw [Int.tmod_eq_emod_of_nonneg (Int.ediv_nonneg h2 (Int.le_of_lt (Int.pow_pos (by decide)))), h1]
  cases f k <;> rfl
set_option maxHeartbeats 6400000 in
theorem hints_same (l : List Ht) (hn : l.length ≤ 4096) (va vb : Value) (w : World) (ha : Rg encH 9 w va l) (hb : Rg encX 72 w vb l) : Calls Try.prog 20 #[va, vb] w fun e w' => e = .returned (.bool true) ∧ Kept w w' := by
  have HA := hid ha
  have HB := hid hb
  obtain ⟨a, ca, rfl, -, -, -, -⟩ := ha
  obtain ⟨b, cb, rfl, -, -, -, -⟩ := hb
  have HG : Hid (∀ k, k < l.length → ∃ y, l[k]? = some y) := hid (fun k hk => ⟨l[k], List.getElem?_eq_getElem hk⟩)
  have HP : Hid (0 < l.length → (∃ g o, a = some ⟨g, o, none⟩) ∧ ∃ g o, b = some ⟨g, o, none⟩) := hid (fun hp => by
    obtain ⟨g, o, c, e⟩ := rg_pos HA.out hp
    obtain ⟨g', o', c', e'⟩ := rg_pos HB.out hp
    injection e with e1
    injection e' with e2
    exact ⟨⟨g, o, e1⟩, ⟨g', o', e2⟩⟩)
  generalize hm : l.length = m at *
  have hne : ((m : Int) != (m : Int)) = false := by simp
  clear hm
  go_enter Try.func20, Try.ntmps20
  go_wp2_with fail
  go_loopw [14] (fun iv wr => ∃ i : Nat, i ≤ m ∧ iv = .int .i64 (i : Int) ∧ Hid (Kept w wr)) (fun iv _ => m - (intOf iv).toNat)
  case atStart => exact ⟨0, Nat.zero_le _, rfl, hid (kept_refl _)⟩
  case round =>
    obtain ⟨i, hi, rfl, HK⟩ := hrel
    by_cases hlt : i < m
    · obtain ⟨y, hy⟩ := HG.out i hlt
      obtain ⟨⟨g1, o1, rfl⟩, ⟨g2, o2, rfl⟩⟩ := HP.out (by omega)
      obtain ⟨p0, p1, p2, p3, p4, p5, p6, p7, p8⟩ := rg_H (rg_kept encH_ok HA.out HK.out) hy
      obtain ⟨q0, q1, q2, q3, q4, q5, q6, q7⟩ := rg_X (rg_kept encX_ok HB.out HK.out) hy
      have heq := eq_self y.r
      have HY := hid hy
      clear hy
      go_wp2_with fail
      go_quiet (fail)
      go_wp2_with fail
      clear p0 p1 p2 p3 p4 p5 p6 p7 p8 q0 q1 q2 q3 q4 q5 q6 q7
      go_loopw [6] (fun jv wq => ∃ j : Nat, j ≤ 64 ∧ jv = .int .i64 (j : Int) ∧ Hid (Kept w wq)) (fun jv _ => 64 - (intOf jv).toNat)
      case atStart => exact ⟨0, Nat.zero_le _, rfl, hid (kept_drewN HK.out _)⟩
      case round =>
        obtain ⟨j, hj, rfl, HKj⟩ := hrel
        by_cases hjl : j < 64
        · have hjz : (j : Int) < 64 := by omega
          obtain ⟨-, -, -, -, -, -, -, -, p8⟩ := rg_H (rg_kept encH_ok HA.out HKj.out) HY.out
          have q8 := rg_Xh (rg_kept encX_ok HB.out HKj.out) HY.out hjl
          have hbit := bit_same y.has hjl
          go_wp2_with fail
          go_quiet (fail)
          go_wp2_with fail
          go_roundw
          case rel => exact ⟨j + 1, by omega, by go_num, hid (kept_drewN HKj.out _)⟩
          case measure => simp [intOf]; omega
        · have hje : j = 64 := by omega
          subst hje
          go_wp2_with fail
          go_roundw
          case rel => exact ⟨i + 1, by omega, by go_num, HKj⟩
          case measure => simp [intOf]; omega
    · have he : i = m := by omega
      subst he
      go_wp2_with fail
      go_ret
      exact ⟨rfl, HK.out⟩
end Go.Proofs.Ytahgplfkgijecaa
