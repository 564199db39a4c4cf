/- The library's stable sort of a row of places that lie in their order: what comes out is in order (Blk). The row has at most 64 members. -/
import Derived.Test.YtalcbahnhiibkaaSrtSym
import Derived.Deep.CutBlock
import Derived.Deep.DeepCutAuto
namespace Go.Proofs.Ytalcbahnhiibkaa
open Go.ChangeShapes Go.WideShapes Go.ChangeAt Go.RowKit
set_option linter.unusedVariables false
set_option linter.unusedSimpArgs false
set_option maxRecDepth 100000

def StabC (key : Nat → Nat) (R n : Nat) (w0 : World) (e : Ending) (w' : World) : Prop := e = .returned (.tuple #[]) ∧ (∃ D, Pl w' R n D ∧ Blk key D 0 n) ∧ Turn R w0 w'
theorem one_asc {key D : Nat → Nat} {k a b : Nat} (h : One key D k) (ha : 20 * k ≤ a) : Asc D a b := fun p q h1 h2 h3 => by rw [h.high p (by omega), h.high q (by omega)]; exact h2
set_option maxHeartbeats 6400000 in
theorem stab_any {key : Nat → Nat} {R n cap : Nat} {T : Value} (w : World) (hc : CmpOk key n R T w) (hs : SymIs key R n cap T w 65) (h : Pl w R n (fun p => p)) (hn : n ≤ 64) :
    Calls Try.prog 27 #[.slice (some ⟨R, 0, none⟩) n cap, .int .i64 (n : Int), .func (.func 22) #[] #[T]] w (StabC key R n w) := by
  have HP := hid h
  have HS := hid hs
  have hI : ∀ (a b : Nat) (D : Nat → Nat) (u : World), Pl u R n D → Turn R w u → (∀ p, p < n → D p < n) → Asc D a b → a ≤ b → b ≤ n → Calls Try.prog 30 #[.slice (some ⟨R, 0, none⟩) n cap, .int .i64 (a : Int), .int .i64 (b : Int), .func (.func 22) #[] #[T]] u fun e w' => e = .returned (.tuple #[]) ∧ (∃ E, Pl w' R n E ∧ Merged key D E a b) ∧ Turn R w w' := fun a b D u g1 g2 g3 g4 g5 g6 => ins_any w u hc g1 g2 hn g3 g4 g5 g6
  have HI := hid hI
  clear h hs hI hc
  go_enter Try.func27, Try.ntmps27
  go_wp2_with fail
  go_loopw [7, 8] (fun va vb wr => ∃ k a b : Nat, va = .int .i64 (a : Int) ∧ vb = .int .i64 (b : Int) ∧ a ≤ n ∧ b ≤ 84 ∧ Hid (b = a + 20) ∧ Hid (a = 20 * k) ∧ (∃ D, Hid (Pl wr R n D) ∧ Hid (One key D k) ∧ Hid (∀ p, p < n → D p < n)) ∧ Hid (Turn R w wr)) (fun va vb _ => 100 - (intOf vb).toNat)
  case atStart => exact ⟨0, 0, 20, rfl, rfl, by omega, by omega, hid rfl, hid rfl, ⟨fun p => p, HP, hid (one_start key), hid (fun p hp => hp)⟩, hid (Turn.refl R w)⟩
  case round =>
    obtain ⟨k, a, b, rfl, rfl, ha, bb, Hb, HA, ⟨D, HD, HO, HB⟩, HT⟩ := hrel
    clear HP
    have HG : Hid (a ≤ b) := hid (by have := Hb.out; omega)
    by_cases hlt : b ≤ n
    · have hltz : (b : Int) ≤ (n : Int) := by omega
      have hR := HI.out a b D wr HD.out HT.out HB.out (one_asc HO.out (by have := HA.out; omega)) HG.out hlt
      go_wp2_with fail
      refine hR.mono ?_
      rintro e w1 ⟨rfl, ⟨E, p1, m1⟩, t1⟩
      have HP1 := hid p1
      have HT1 := hid t1
      have HM1 := hid m1
      clear p1 t1 hR m1
      go_wp2_with fail
      go_roundw
      case rel =>
        refine ⟨k + 1, b, b + 20, rfl, by go_num, hlt, by omega, hid rfl, hid (by have := HA.out; have := Hb.out; omega), ⟨E, HP1, hid (one_next HO.out ?_), hid (same_bound HM1.out.same hlt HB.out)⟩, HT1⟩
        have := HM1.out
        rw [Hb.out, HA.out] at this
        exact this
      case measure => simp [intOf]; omega
    · have hltz : ¬ (b : Int) ≤ (n : Int) := by omega
      have hR := HI.out a n D wr HD.out HT.out HB.out (one_asc HO.out (by have := HA.out; omega)) ha (Nat.le_refl _)
      go_wp2_with fail
      refine hR.mono ?_
      rintro e w1 ⟨rfl, ⟨E, p1, m1⟩, t1⟩
      have HP1 := hid p1
      have HT1 := hid t1
      have HB1 := hid (same_bound m1.same (Nat.le_refl _) HB.out)
      have HM1 : Hid (Some key E n 20) := hid (one_done HO.out (by have := HA.out; omega) (by have := HA.out; have := Hb.out; omega) (by rw [← HA.out]; exact m1))
      clear p1 t1 hR m1 HD HO HB HT HA
      go_wp2_with fail
      go_loopw [6] (fun vs wr => ∃ s : Nat, vs = .int .i64 (s : Int) ∧ (s = 20 ∨ s = 40 ∨ s = 80) ∧ (∃ D, Hid (Pl wr R n D) ∧ Hid (Some key D n s) ∧ Hid (∀ p, p < n → D p < n)) ∧ Hid (Turn R w wr)) (fun vs _ => 100 - (intOf vs).toNat)
      case atStart => exact ⟨20, rfl, Or.inl rfl, ⟨E, HP1, HM1, HB1⟩, HT1⟩
      case round =>
        obtain ⟨s, rfl, hs, ⟨D, HD, HO, HB⟩, HT⟩ := hrel
        clear HP1 HT1 HB1 HM1
        by_cases hlt2 : s < n
        · have hlz : (s : Int) < (n : Int) := by omega
          have hs2 : s = 20 ∨ s = 40 := by omega
          obtain ⟨c, hc⟩ : ∃ c, c = 2 * s := ⟨_, rfl⟩
          have hwc : IntKind.i64.wrap (2 * (s : Int)) = (c : Int) := by rw [IntWalk.i64_in _ (by omega)]; omega
          have hwd : IntKind.i64.wrap ((s : Int) * 2) = (c : Int) := by rw [IntWalk.i64_in _ (by omega)]; omega
          have HC := hid hc
          have HS2 := hid hs2
          have bs : s ≤ 40 := by omega
          have bc : c ≤ 80 := by omega
          clear hc hs2 hs
          go_wp2_with fail
          obtain ⟨w5, hw5⟩ : ∃ w5, w5 = wr := ⟨_, rfl⟩
          subst hw5
          go_loopw [7, 8] (fun va vb wr => ∃ k a b : Nat, va = .int .i64 (a : Int) ∧ vb = .int .i64 (b : Int) ∧ a ≤ n ∧ b ≤ 144 ∧ Hid (b = a + c) ∧ Hid (a = 2 * s * k) ∧ (∃ D, Hid (Pl wr R n D) ∧ Hid (Two key D n s k) ∧ Hid (∀ p, p < n → D p < n)) ∧ Hid (Turn R w wr)) (fun va vb _ => 200 - (intOf vb).toNat)
          case atStart => exact ⟨0, 0, c, rfl, rfl, by omega, by omega, hid (by omega), hid (by omega), ⟨D, HD, hid (two_start HO.out), HB⟩, HT⟩
          case round =>
            obtain ⟨k, a, b, rfl, rfl, ha, bb, Hb, HA, ⟨F, HF, HW, HBF⟩, HTF⟩ := hrel
            clear HD HO HB HT
            obtain ⟨m, hm⟩ : ∃ m, m = a + s := ⟨_, rfl⟩
            have hwm : IntKind.i64.wrap ((a : Int) + (s : Int)) = (m : Int) := by rw [IntWalk.i64_in _ (by omega)]; omega
            have HM := hid hm
            have hm0 : a < m := by have := HS2.out; omega
            clear hm
            by_cases hle : b ≤ n
            · have hlez : (b : Int) ≤ (n : Int) := by omega
              have hBB := two_halves HS2.out HW.out (b := b) (by have := HA.out; have := HS2.out; have := HC.out; have := Hb.out; omega) hle (by have := HA.out; have := HC.out; have := Hb.out; omega) (Or.inr (by have := HA.out; have := HC.out; have := Hb.out; omega))
              rw [← HA.out, ← HM.out] at hBB
              have hR := HS.out a m b F wr HF.out HTF.out HBF.out (blk_halves hBB.1 hBB.2) hm0 (by have := HM.out; have := HS2.out; have := HC.out; have := Hb.out; omega) hle (by have := HM.out; have := HS2.out; have := HC.out; have := Hb.out; omega)
              obtain ⟨b2, hb2⟩ : ∃ b2, b2 = b + c := ⟨_, rfl⟩
              have hwb : IntKind.i64.wrap ((b : Int) + (c : Int)) = (b2 : Int) := by rw [IntWalk.i64_in _ (by omega)]; omega
              have HB2 := hid hb2
              clear hBB hb2
              go_wp2_with fail
              refine hR.mono ?_
              rintro e w1 ⟨rfl, ⟨E, p1, m1⟩, t1⟩
              have HP1 := hid p1
              have HT1 := hid t1
              have HM1 := hid m1
              clear p1 t1 hR m1
              go_wp2_with fail
              go_roundw
              case rel =>
                refine ⟨k + 1, b, b2, rfl, rfl, hle, by have := HB2.out; omega, hid HB2.out, hid ?_, ⟨E, HP1, hid (two_next HS2.out HW.out ?_ ?_), hid (same_bound HM1.out.same hle HBF.out)⟩, HT1⟩
                · have := HA.out
                  have := HC.out
                  have := Hb.out
                  rcases HS2.out with e | e <;> subst e <;> omega
                · have := HA.out
                  have := HC.out
                  have := Hb.out
                  omega
                · have := HM1.out
                  rw [Hb.out, HC.out, HA.out] at this
                  exact this
              case measure =>
                have := HB2.out
                have := HC.out
                have := HS2.out
                simp [intOf]
                omega
            · have hlez : ¬ (b : Int) ≤ (n : Int) := by omega
              by_cases hmn : m < n
              · have hmz : (m : Int) < (n : Int) := by omega
                have hBB := two_halves HS2.out HW.out (b := n) (by have := HA.out; have := HM.out; omega) (Nat.le_refl _) (by have := HA.out; have := HC.out; have := Hb.out; omega) (Or.inl rfl)
                rw [← HA.out, ← HM.out] at hBB
                have hR := HS.out a m n F wr HF.out HTF.out HBF.out (blk_halves hBB.1 hBB.2) hm0 hmn (Nat.le_refl _) (by omega)
                clear hBB
                go_wp2_with fail
                refine hR.mono ?_
                rintro e w1 ⟨rfl, ⟨E, p1, m1⟩, t1⟩
                have HP1 := hid p1
                have HT1 := hid t1
                have HM1 := hid m1
                clear p1 t1 hR m1
                go_wp2_with fail
                go_roundw
                case rel =>
                  refine ⟨c, rfl, by have := HS2.out; have := HC.out; have := Hb.out; omega, ⟨E, HP1, hid ?_, hid (same_bound HM1.out.same (Nat.le_refl _) HBF.out)⟩, HT1⟩
                  rw [HC.out]
                  refine two_last (k := k) HS2.out HW.out (by have := HA.out; have := HM.out; omega) (by have := HA.out; have := HC.out; have := Hb.out; omega) ?_
                  rw [← HA.out]
                  exact HM1.out
                case measure =>
                  have := HC.out
                  have := HS2.out
                  simp [intOf]
                  omega
              · have hmz : ¬ (m : Int) < (n : Int) := by omega
                go_wp2_with fail
                go_roundw
                case rel =>
                  refine ⟨c, rfl, by have := HS2.out; have := HC.out; have := Hb.out; omega, ⟨F, HF, hid ?_, HBF⟩, HTF⟩
                  rw [HC.out]
                  exact two_none (k := k) HS2.out HW.out (by have := HA.out; omega) (by have := HA.out; have := HM.out; omega)
                case measure =>
                  have := HC.out
                  have := HS2.out
                  simp [intOf]
                  omega
        · have hlz : ¬ (s : Int) < (n : Int) := by omega
          go_wp2_with fail
          go_end0
          exact ⟨rfl, ⟨D, HD.out, some_done HO.out (by omega)⟩, HT.out⟩
set_option maxHeartbeats 1600000 in
theorem sort_any {key : Nat → Nat} {R n cap : Nat} {T : Value} (w : World) (hc : CmpOk key n R T w) (hs : SymIs key R n cap T w 65) (h : Pl w R n (fun p => p)) (hn : n ≤ 64) :
    Calls Try.prog 21 #[.slice (some ⟨R, 0, none⟩) n cap, .func (.func 22) #[] #[T]] w (StabC key R n w) := by
  have hR := stab_any w hc hs h hn
  clear hc hs h
  go_enter Try.func21, Try.ntmps21
  go_wp2_with fail
  refine hR.mono ?_
  rintro e w1 ⟨rfl, h1⟩
  have H1 := hid h1
  clear h1 hR
  go_wp2_with fail
  go_end0
  exact ⟨rfl, H1.out⟩
end Go.Proofs.Ytalcbahnhiibkaa
