/- The library's insertion sort of a row of places, by a comparison that only reads (CmpOk). The row has at most 64 members. -/
import Derived.Test.YtalcbahnhiibkaaSrtMem
namespace Go.Proofs.Ytalcbahnhiibkaa
open Go.ChangeShapes Go.WideShapes Go.ChangeAt Go.RowKit
set_option linter.unusedVariables false
set_option linter.unusedSimpArgs false
set_option maxRecDepth 100000

def cmpI (x y : Nat) : Int := if x < y then -1 else if y < x then 1 else 0
theorem cmpI_yes {x y : Nat} (h : x < y) : cmpI x y = -1 := by unfold cmpI; rw [if_pos h]
theorem cmpI_no {x y : Nat} (h : ¬ x < y) : ¬ cmpI x y < 0 := by unfold cmpI; rw [if_neg h]; split <;> omega
def fn (T : Value) : Value := .func (.func 22) #[] #[T]
/- What is asked of the comparison: in each world in which nothing but the row has turned. -/
def CmpOk (key : Nat → Nat) (n R : Nat) (T : Value) (w0 : World) : Prop := ∀ (u : World) (x y : Nat), Turn R w0 u → x < n → y < n → Calls Try.prog 22 #[.int .i64 (x : Int), .int .i64 (y : Int), T] u fun e w' => e = .returned (.int .i64 (cmpI (key x) (key y))) ∧ ∃ q, w' = u.drewN q
set_option maxHeartbeats 3200000 in
theorem ins_any {key : Nat → Nat} {R n cap a b : Nat} {D : Nat → Nat} {T : Value} (w0 w : World) (hc : CmpOk key n R T w0) (h : Pl w R n D) (ht : Turn R w0 w) (hn : n ≤ 64) (hD : ∀ p, p < n → D p < n) (hA : Asc D a b) (h1 : a ≤ b) (h2 : b ≤ n) :
    Calls Try.prog 30 #[.slice (some ⟨R, 0, none⟩) n cap, .int .i64 (a : Int), .int .i64 (b : Int), .func (.func 22) #[] #[T]] w fun e w' => e = .returned (.tuple #[]) ∧ (∃ E, Pl w' R n E ∧ Merged key D E a b) ∧ Turn R w0 w' := by
  have HP := hid h
  have HT := hid ht
  have HC := hid hc
  have HA := hid hA
  have HD := hid hD
  clear h ht hc hA hD
  go_enter Try.func30, Try.ntmps30
  go_wp2
  go_loopw [8] (fun vi wr => ∃ i : Nat, a + 1 ≤ i ∧ (i ≤ b ∨ i = a + 1) ∧ vi = .int .i64 (i : Int) ∧ (∃ E, Hid (Pl wr R n E) ∧ Hid (Ins key D E a i)) ∧ Hid (Turn R w0 wr)) (fun vi _ => b + 1 - (intOf vi).toNat)
  case atStart => exact ⟨a + 1, Nat.le_refl _, Or.inr rfl, by go_num, ⟨D, HP, hid (ins_start key D a)⟩, HT⟩
  case round =>
    obtain ⟨i, hi1, hi2, rfl, ⟨E, HE, HI⟩, HTr⟩ := hrel
    clear HP HT
    by_cases hlt : i < b
    · have hltz : (i : Int) < (b : Int) := by omega
      have HB : Hid (∀ p, p < n → E p < n) := hid (same_bound HI.out.same (by omega) HD.out)
      go_wp2
      go_loopw [9] (fun vj wr2 => ∃ j : Nat, a ≤ j ∧ j ≤ i ∧ vj = .int .i64 (j : Int) ∧ Hid (Pl wr2 R n (rot E j i (i + 1))) ∧ Hid (∀ p, j ≤ p → p < i → key (E i) < key (E p)) ∧ Hid (Turn R w0 wr2)) (fun vj _ => (intOf vj).toNat)
      case atStart => exact ⟨i, by omega, Nat.le_refl _, rfl, hid (pl_ext HE.out (fun p _ => rot_left E i (i + 1) p)), hid (fun p h1 h2 => by omega), HTr⟩
      case round =>
        obtain ⟨j, hj1, hj2, rfl, HPj, HK, HTj⟩ := hrel
        clear HE HTr
        have OUT : Hid ((j = a ∨ ¬ key (E i) < key (E (j - 1))) → Ins key D (rot E j i (i + 1)) a (i + 1)) := hid (fun hs => ins_next HI.out HA.out (by omega) hlt hj1 hj2 HK.out hs)
        by_cases hja : a < j
        · have hjaz : (a : Int) < (j : Int) := by omega
          obtain ⟨jp, rfl⟩ : ∃ jp, j = jp + 1 := ⟨j - 1, by omega⟩
          obtain ⟨j1, hj⟩ : ∃ j1, j1 = jp + 1 := ⟨_, rfl⟩
          have ej : rot E (jp + 1) i (i + 1) (jp + 1) = E i := by rw [rot_one (Nat.le_refl _) (by omega)]; congr 1; omega
          have ep : rot E (jp + 1) i (i + 1) jp = E jp := rot_lo (by omega)
          have cj := pl_cell HPj.out (k := jp + 1) (by omega)
          have cp := pl_cell HPj.out (k := jp) (by omega)
          have fj := pl_free HPj.out (jp + 1)
          have fp := pl_free HPj.out jp
          rw [ej] at cj
          rw [ep] at cp
          have hq := fun q => HC.out (wr.drewN q) (E i) (E jp) (turn_drewN HTj.out q) (HB.out i (by omega)) (HB.out jp (by omega))
          have hwp : IntKind.i64.wrap ((j1 : Int) - 1) = (jp : Int) := by rw [IntWalk.i64_in _ (by omega)]; omega
          have jz : (j1 : Int) < (n : Int) := by omega
          have jz1 : (jp : Int) < (n : Int) := by omega
          have hjaz2 : (a : Int) < (j1 : Int) := by omega
          have HJ := hid hj
          have HEJ : Hid (rot E (jp + 1) i (i + 1) (jp + 1) = E i ∧ rot E (jp + 1) i (i + 1) jp = E jp) := hid ⟨ej, ep⟩
          rw [show ((jp + 1 : Nat) : Int) = (j1 : Int) by rw [hj]]
          rw [← hj] at cj fj
          have HN : Hid (jp + 1 < n ∧ jp < i) := hid (by omega)
          clear hj ej ep hja hjaz
          obtain ⟨x, hx⟩ : ∃ x, E i = x := ⟨_, rfl⟩
          obtain ⟨y, hy⟩ : ∃ y, E jp = y := ⟨_, rfl⟩
          rw [hx] at cj hq
          rw [hy] at cp hq
          have HXY : Hid (E i = x ∧ E jp = y) := hid ⟨hx, hy⟩
          clear hx hy
          by_cases hl : key x < key y
          · have hl2 : cmpI (key x) (key y) < 0 := by rw [cmpI_yes hl]; decide
            have HL := hid hl
            clear hl
            go_wp2_with fail
            go_quiet (first | (go_at_call 22; refine Calls.quiet_of (hq _)))
            go_wp2_with fail
            have HPq : Hid (Pl (wr.drewN nq) R n (rot E (jp + 1) i (i + 1))) := HPj
            have HTq : Hid (Turn R w0 (wr.drewN nq)) := HTj
            have cj2 : (wr.drewN nq).cell? ⟨R, j1, none⟩ = some (.int .i64 (x : Int)) := cj
            have cp2 : (wr.drewN nq).cell? ⟨R, jp, none⟩ = some (.int .i64 (y : Int)) := cp
            have fj2 : (wr.drewN nq).frozen? ⟨R, j1, none⟩ = false := fj
            have fp2 : (wr.drewN nq).frozen? ⟨R, jp, none⟩ = false := fp
            have ne1 : j1 ≠ jp := by have := HJ.out; omega
            have ne2 : jp ≠ j1 := Ne.symm ne1
            clear cj cp fj fp hq HPj HTj hl2
            generalize wr.drewN nq = wq at *
            go_region
            all_goals go_wp2
            go_roundw
            case rel =>
              obtain ⟨e1, e2⟩ := HXY.out
              obtain ⟨e3, e4⟩ := HEJ.out
              refine ⟨jp, by have := HJ.out; omega, by omega, by go_num, hid ?_, hid (fun p p1 p2 => ?_), hid (turn_sw HTq.out _ _ _ _)⟩
              · have hs := pl_sw HPq.out HN.out.1 (j := jp) (by have := HN.out.1; omega)
                rw [e3, e4, e1, e2, ← HJ.out] at hs
                refine pl_ext hs (fun p _ => ?_)
                rw [HJ.out]
                exact (sw_down (by omega) hj2 p).symm
              · by_cases c : p = jp
                · rw [c, e1, e2]; exact HL.out
                · exact HK.out p (by omega) p2
            case measure => have := HJ.out; simp [intOf]; omega
          · have hl2 : ¬ cmpI (key x) (key y) < 0 := cmpI_no hl
            have HL := hid hl
            clear hl
            go_wp2_with fail
            go_quiet (first | (go_at_call 22; refine Calls.quiet_of (hq _)))
            go_wp2_with fail
            go_roundw
            case rel =>
              obtain ⟨e1, e2⟩ := HXY.out
              exact ⟨i + 1, by omega, by omega, by go_num, ⟨_, HPj, hid (OUT.out (Or.inr (by rw [Nat.add_sub_cancel, e1, e2]; exact HL.out)))⟩, HTj⟩
            case measure => simp [intOf]; omega
        · have hjaz : decide ((j : Int) > (a : Int)) = false := decide_eq_false (by omega)
          have hjaz2 : ¬ (a : Int) < (j : Int) := by omega
          go_wp2_with fail
          go_quiet (fail)
          go_wp2_with fail
          go_roundw
          case rel => exact ⟨i + 1, by omega, by omega, by go_num, ⟨_, HPj, hid (OUT.out (Or.inl (by omega)))⟩, HTj⟩
          case measure => simp [intOf]; omega
    · have hltz : ¬ (i : Int) < (b : Int) := by omega
      go_wp2
      go_end0
      refine ⟨rfl, ⟨E, HE.out, ?_⟩, HTr.out⟩
      by_cases c : i = b
      · subst c; exact ⟨HI.out.same, HI.out.srt⟩
      · have hb : b = a := by omega
        subst hb
        have hs := HI.out.same
        rw [show i = b + 1 by omega] at hs
        refine ⟨⟨fun p hp => ?_, fun p p1 p2 => by omega, fun p p1 p2 => by omega⟩, srt_tiny (by omega)⟩
        by_cases c2 : p = b
        · subst c2
          obtain ⟨q, q1, q2, e⟩ := hs.img p (Nat.le_refl _) (by omega)
          rw [e]; congr 1; omega
        · exact hs.out p (by omega)
end Go.Proofs.Ytalcbahnhiibkaa
