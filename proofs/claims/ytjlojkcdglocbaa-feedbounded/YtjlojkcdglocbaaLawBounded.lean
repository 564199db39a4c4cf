/- The statement FeedBounded's walk: true of any row of texts; nothing is turned. -/
import Derived.Test.YtjlojkcdglocbaaFeedOpen
namespace Go.Proofs.Ytjlojkcdglocbaa
open Go.ChangeShapes Go.WideShapes Go.ChangeAt Go.RowKit
set_option linter.unusedVariables false
set_option linter.unusedSimpArgs false

theorem wrap_next {k len : Nat} (h : k < len) (hl : len ≤ 9223372036854775807) : Value.int .i64 (wrap64 ((k : Int) + 1)) = .int .i64 ((k + 1 : Nat) : Int) := by
  congr 1
  simp only [wrap64]
  omega
theorem less_next {k len : Nat} (h : k < len) (hl : len ≤ 9223372036854775807) : len - (intOf (.int .i64 (wrap64 ((k : Int) + 1)))).toNat < len - (intOf (.int .i64 (k : Int))).toNat := by
  rw [wrap_next h hl]
  simp [intOf]
  omega
set_option maxHeartbeats 1600000 in
set_option maxRecDepth 100000 in
theorem bounded_law (oa : Option Addr) (len cap b o : Nat) (S : Nat → ByteArray) (w : World) (hr : Row w oa len b o (fun i => .string (S i))) (hs : ∀ i, (S i).size ≤ maxLen) :
    Calls Try.prog 6 #[.slice oa len cap] w fun e w' => e = .returned (.bool true) ∧ Kept w w' := by
  have HR := hid hr
  have HL : Hid (len ≤ 9223372036854775807) := hr.1
  clear hr hs
  go_enter Try.func6, Try.ntmps6
  go_wp2_with fail
  refine (new_any w.heap.size w (Nat.le_refl _)).mono ?_
  rintro e w1 ⟨F, rfl, hF, hf, hk⟩
  have HB := hid hF
  have HK := hid hk
  have HF := hid hf
  clear hF hk hf
  go_wp2_with fail
  go_loopw [4, 11] (fun v4 v11 wr => ∃ (k m : Nat) (f : Fd), k ≤ len ∧ v11 = .int .i64 (k : Int) ∧ v4 = .int .i64 (m : Int) ∧ Hid (m ≤ 20000) ∧ Hid (FeedAt w.heap.size wr F f) ∧ Hid (okF f) ∧ Hid (Kept w wr)) (fun v4 v11 wr => len - (intOf v11).toNat)
  case atStart => exact ⟨0, 0, fresh, Nat.zero_le _, rfl, rfl, by show 0 ≤ 20000; omega, HF, fresh_ok, HK⟩
  case round =>
    clear HF HK
    obtain ⟨k, m, f, hk, rfl, rfl, HM, HF, HOk, HK⟩ := hrel
    by_cases hlt : k < len
    · have hRk := row_kept HR.out HK.out
      have hc : wr.cell? ⟨b, o + k, none⟩ = some (.string (S k)) := hRk.2.2 k hlt
      obtain ⟨hoa, hb⟩ := hRk.2.1 (by omega)
      have h2 : (k : Int) < (len : Int) := by omega
      clear hRk
      generalize S k = s at *
      subst hoa
      have hmb : m ≤ 20000 := HM.out
      by_cases hsb : 20000 < s.size
      · have hb2 : (20000 : Int) < (s.size : Int) := by omega
        clear hsb hmb
        by_cases hw : 20000 < wrap64 ((m : Int) + (s.size : Int))
        · go_wp2_with fail
          go_wp2_with fail
          refine (fixed_any _).mono ?_
          rintro e w5 ⟨rfl, hk5⟩
          have HK5 := hid (kept_trans HK.out hk5)
          clear hk5
          go_wp2_with fail
          refine (Take_nil ⟨#[118, 101, 114, 115, 105, 111, 110, 10]⟩ (by rw [Lib.toList_data]; simp) _).mono ?_
          rintro e w6 ⟨rfl, hw⟩
          rw [hw]; clear hw w6
          go_wp2_with fail
          refine (heldnil_any _).mono ?_
          rintro e w6 ⟨rfl, hw⟩
          rw [hw]; clear hw w6
          go_wp2_with fail
          refine (over_nil _).mono ?_
          rintro e w6 ⟨rfl, hw⟩
          rw [hw]; clear hw w6
          go_wp2_with fail
          go_ret
          exact ⟨rfl, HK5.out⟩
        · go_wp2_with fail
          go_wp2_with fail
          refine (fixed_any _).mono ?_
          rintro e w5 ⟨rfl, hk5⟩
          have HK5 := hid (kept_trans HK.out hk5)
          clear hk5
          go_wp2_with fail
          refine (Take_nil ⟨#[118, 101, 114, 115, 105, 111, 110, 10]⟩ (by rw [Lib.toList_data]; simp) _).mono ?_
          rintro e w6 ⟨rfl, hw⟩
          rw [hw]; clear hw w6
          go_wp2_with fail
          refine (heldnil_any _).mono ?_
          rintro e w6 ⟨rfl, hw⟩
          rw [hw]; clear hw w6
          go_wp2_with fail
          refine (over_nil _).mono ?_
          rintro e w6 ⟨rfl, hw⟩
          rw [hw]; clear hw w6
          go_wp2_with fail
          go_ret
          exact ⟨rfl, HK5.out⟩
      by_cases hbig : 20000 < m + s.size
      · have hb1 : (20000 : Int) < (m : Int) + (s.size : Int) := by omega
        clear hbig
        go_wp2_with fail
        go_wp2_with fail
        refine (fixed_any _).mono ?_
        rintro e w5 ⟨rfl, hk5⟩
        have HK5 := hid (kept_trans HK.out hk5)
        clear hk5
        go_wp2_with fail
        refine (Take_nil ⟨#[118, 101, 114, 115, 105, 111, 110, 10]⟩ (by rw [Lib.toList_data]; simp) _).mono ?_
        rintro e w6 ⟨rfl, hw⟩
        rw [hw]; clear hw w6
        go_wp2_with fail
        refine (heldnil_any _).mono ?_
        rintro e w6 ⟨rfl, hw⟩
        rw [hw]; clear hw w6
        go_wp2_with fail
        refine (over_nil _).mono ?_
        rintro e w6 ⟨rfl, hw⟩
        rw [hw]; clear hw w6
        go_wp2_with fail
        go_ret
        exact ⟨rfl, HK5.out⟩
      · have hb1 : ¬ (20000 : Int) < (m : Int) + (s.size : Int) := by omega
        have hb2 : ¬ (20000 : Int) < (s.size : Int) := by omega
        have HM2 : Hid (m + s.size ≤ 20000) := by show _ ≤ _; omega
        clear hbig
        go_wp2_with fail
        refine (Take_any w.heap.size F f HOk.out s (by have := HM2.out; omega) _ HF.out).mono ?_
        rintro e w2 ⟨v2, f2, rfl, -, g2, o2, -, t2⟩
        have HK2 := hid (kept_fr HK.out rfl HB.out t2)
        have HF2 := hid g2
        have HO2 := hid o2
        clear g2 o2 t2 HF HK HOk hc
        obtain ⟨hv, kv, g⟩ := HF2.out
        have HG := hid g
        clear g
        have hh : f2.h.length ≤ 2048 := by rw [heldF HO2.out]; exact held_ok HO2.out.1
        have hh1 : ¬ (f2.h.length : Int) < 0 := by omega
        have hh2 : ¬ (2048 : Int) < (f2.h.length : Int) := by omega
        generalize hn : f2.h.length = n at *
        have HN := hid hn
        clear hn
        go_wp2_with fail
        refine (held_any _ _ _ _ _ _ _ _ _ HG.out).mono ?_
        rintro e w6 ⟨rfl, hw⟩
        rw [hw]; clear hw w6
        rw [HN.out]
        go_wp2_with fail
        refine (held_any _ _ _ _ _ _ _ _ _ HG.out).mono ?_
        rintro e w6 ⟨rfl, hw⟩
        rw [hw]; clear hw w6
        rw [HN.out]
        go_wp2_with fail
        refine (over_any _ _ _ _ _ _ _ _ _ HG.out).mono ?_
        rintro e w6 ⟨rfl, hw⟩
        rw [hw]; clear hw w6
        cases ho : isOver f2.p with
        | false =>
          clear ho
          go_wp2_with fail
          go_roundw
          case rel => exact ⟨k + 1, m + s.size, f2, by omega, wrap_next hlt HL.out, by go_num, HM2, HF2, HO2, HK2⟩
          case measure => exact less_next hlt HL.out
        | true =>
          have HA : Hid (absF f2 = .over) := by
            show _ = _
            have := over_abs f2
            rw [ho] at this
            cases h : absF f2 using Fs.each <;> rw [h] at this <;> first | rfl | cases this
          clear ho
          go_wp2_with fail
          refine (Take_any w.heap.size F f2 HO2.out ⟨#[118, 101, 114, 115, 105, 111, 110, 13, 10]⟩ (by decide) _ HF2.out).mono ?_
          rintro e w3 ⟨v3, f3, rfl, r3, g3, o3, a3, t3⟩
          rw [HA.out, runB_over] at r3
          have hv3 := row_none r3
          subst hv3
          have HK3 := hid (kept_fr HK2.out rfl HB.out t3)
          have HF3 := hid g3
          have HO3 := hid o3
          clear r3 g3 o3 a3 t3
          go_wp2_with fail
          go_roundw
          case rel => exact ⟨k + 1, m + s.size, f3, by omega, wrap_next hlt HL.out, by go_num, HM2, HF3, HO3, HK3⟩
          case measure => exact less_next hlt HL.out
    · have he : k = len := by omega
      subst he
      go_wp2_with fail
      go_wp2_with fail
      refine (fixed_any _).mono ?_
      rintro e w5 ⟨rfl, hk5⟩
      have HK5 := hid (kept_trans HK.out hk5)
      clear hk5
      go_wp2_with fail
      refine (Take_nil ⟨#[118, 101, 114, 115, 105, 111, 110, 10]⟩ (by rw [Lib.toList_data]; simp) _).mono ?_
      rintro e w6 ⟨rfl, hw⟩
      rw [hw]; clear hw w6
      go_wp2_with fail
      refine (heldnil_any _).mono ?_
      rintro e w6 ⟨rfl, hw⟩
      rw [hw]; clear hw w6
      go_wp2_with fail
      refine (over_nil _).mono ?_
      rintro e w6 ⟨rfl, hw⟩
      rw [hw]; clear hw w6
      go_wp2_with fail
      go_ret
      exact ⟨rfl, HK5.out⟩
end Go.Proofs.Ytjlojkcdglocbaa
