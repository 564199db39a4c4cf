/- The contracts of the program's Newer, may, believed and answered. Members are as they can be where that is said. -/
import Derived.Test.YtdcokccfannfmaaVwRows
import Derived.Deep.CutBlock
namespace Go.Proofs.Ytdcokccfannfmaa
open Go.ChangeShapes Go.WideShapes Go.ChangeAt Go.RowKit
set_option linter.unusedVariables false
set_option linter.unusedSimpArgs false
set_option maxRecDepth 100000

set_option maxHeartbeats 1600000 in
theorem newer_is (a b : M) (w : World) : Calls Try.prog 15 #[.agg #[.int .u8 a.st, .int .u32 a.inc], .agg #[.int .u8 b.st, .int .u32 b.inc]] w fun e w' => e = .returned (.bool (nwr a b)) ∧ Kept w w' := by
  have HK := hid (kept_alloc (kept_alloc (kept_refl w) (.cells #[.int .u8 a.st, .int .u32 a.inc] 33)) (.cells #[.int .u8 b.st, .int .u32 b.inc] 33))
  by_cases h1 : b.inc < a.inc
  · have HE : Hid (nwr a b = true) := hid (by unfold nwr; simp [h1])
    have d1 : decide (b.inc < a.inc) = true := by simpa using h1
    go_enter Try.func15, Try.ntmps15
    go_wp2_with fail
    go_ret
    exact ⟨says_bool HE.out.symm, HK.out⟩
  · have d1 : decide (b.inc < a.inc) = false := by simpa using h1
    by_cases h2 : a.inc = b.inc
    · have e2 : (a.inc == b.inc) = true := by simpa using h2
      have HE : Hid (nwr a b = decide (b.st < a.st)) := hid (by unfold nwr; simp [h2])
      clear h2
      go_enter Try.func15, Try.ntmps15
      go_wp2_with fail
      go_ret
      exact ⟨says_bool HE.out.symm, HK.out⟩
    · have e2 : (a.inc == b.inc) = false := by simpa using h2
      have HE : Hid (nwr a b = false) := hid (by unfold nwr; simp [h2]; omega)
      clear h2
      go_enter Try.func15, Try.ntmps15
      go_wp2_with fail
      go_ret
      exact ⟨says_bool HE.out.symm, HK.out⟩
set_option maxHeartbeats 1600000 in
theorem may_is (m : M) (w : World) : Calls Try.prog 25 #[.int .u8 m.st] w fun e w' => e = .returned (.bool (val m)) ∧ w' = w := by
  by_cases h1 : (1 : Int) ≤ m.st
  · have d1 : decide ((1 : Int) ≤ m.st) = true := by simpa using h1
    have HE : Hid (val m = decide (m.st ≤ 4)) := hid (by unfold val; simp [h1])
    go_enter Try.func25, Try.ntmps25
    go_wp2_with fail
    go_ret
    exact ⟨says_bool HE.out.symm, rfl⟩
  · have d1 : decide ((1 : Int) ≤ m.st) = false := by simpa using h1
    have HE : Hid (val m = false) := hid (by unfold val; simp [h1])
    go_enter Try.func25, Try.ntmps25
    go_wp2_with fail
    go_ret
    exact ⟨says_bool HE.out.symm, rfl⟩
/- A member in a cell as a call's answer. -/
theorem resM {fn : Func} {p : Tmp} (h : fn.results = #[.cell p 33]) (tmps : Array Value) {w : World} {X T : Nat} {v0 v1 : Value} (hp : tmps.getD p undef = .pointer (some ⟨X, 0, none⟩)) (hA : At w X #[v0, v1] T) :
    (results fn tmps).run Try.prog w = .ok (.agg #[v0, v1]) w := by
  obtain ⟨c0, c1⟩ := at_cells2 hA
  have hp' : tmps[p]?.getD undef = .pointer (some ⟨X, 0, none⟩) := by simpa using hp
  simp [results, h, go_sem, hp', c0, c1]
def aggM (m : M) : Value := .agg #[.int .u8 m.st, .int .u32 m.inc]
/- A call that answers a member. -/
def TellsM (m : M) (w : World) (e : Ending) (w' : World) : Prop := e = .returned (.agg #[.int .u8 m.st, .int .u32 m.inc]) ∧ Kept w w'
/- The three boxes of such a call. -/
structure Bxs (w w3 : World) (P2 P3 P4 : Nat) (had told : M) : Prop where
  a2 : At w3 P2 #[.int .u8 had.st, .int .u32 had.inc] 33
  a3 : At w3 P3 #[.int .u8 told.st, .int .u32 told.inc] 33
  a4 : ∃ v0 v1, At w3 P4 #[v0, v1] 33
  k : Kept w w3
  b : w.heap.size ≤ P4
theorem bxs_new (w : World) (had told : M) : Bxs w (((w.alloc (.cells #[.int .u8 had.st, .int .u32 had.inc] 33)).alloc (.cells #[.int .u8 told.st, .int .u32 told.inc] 33)).alloc (.cells #[.int .u8 0, .int .u32 0] 33)) w.heap.size (w.heap.size + 1) (w.heap.size + 1 + 1) had told := by
  have h3 := at_new (w.alloc (.cells #[.int .u8 had.st, .int .u32 had.inc] 33)) #[.int .u8 told.st, .int .u32 told.inc] 33
  have h4 := at_new ((w.alloc (.cells #[.int .u8 had.st, .int .u32 had.inc] 33)).alloc (.cells #[.int .u8 told.st, .int .u32 told.inc] 33)) #[.int .u8 0, .int .u32 0] 33
  simp only [World.size_alloc] at h3 h4
  exact ⟨at_alloc (at_alloc (at_new w _ 33) _) _, at_alloc h3 _, ⟨_, _, h4⟩, kept_alloc (kept_alloc (kept_alloc (kept_refl w) _) _) _, by omega⟩
theorem bxs_kept {w w3 w4 : World} {P2 P3 P4 : Nat} {had told : M} (h : Bxs w w3 P2 P3 P4 had told) (k : Kept w3 w4) : Bxs w w4 P2 P3 P4 had told := by
  obtain ⟨v0, v1, h4⟩ := h.a4
  exact ⟨at_kept h.a2 k, at_kept h.a3 k, ⟨v0, v1, at_kept h4 k⟩, kept_trans h.k k, h.b⟩
theorem bxs_end {w w3 : World} {P2 P3 P4 : Nat} {had told : M} (h : Bxs w w3 P2 P3 P4 had told) (m : M) : At ((w3.setCell ⟨P4, 0, none⟩ (.int .u8 m.st)).setCell ⟨P4, 1, none⟩ (.int .u32 m.inc)) P4 #[.int .u8 m.st, .int .u32 m.inc] 33 ∧ Kept w ((w3.setCell ⟨P4, 0, none⟩ (.int .u8 m.st)).setCell ⟨P4, 1, none⟩ (.int .u32 m.inc)) := by
  obtain ⟨v0, v1, h4⟩ := h.a4
  have := at_set (at_set h4 0 (.int .u8 m.st)) 1 (.int .u32 m.inc)
  exact ⟨this, kept_set (kept_set h.k h.b _ _) h.b _ _⟩
def belM (told had : M) : M := if nwr told had then told else had
set_option maxHeartbeats 1600000 in
theorem believed_is (had told : M) (w : World) : Calls Try.prog 26 #[.agg #[.int .u8 had.st, .int .u32 had.inc], .agg #[.int .u8 told.st, .int .u32 told.inc]] w (TellsM (belM told had) w) := by
  have zs := zeroM
  have HB := hid (bxs_new w had told)
  go_enter Try.func26, Try.ntmps26
  go_wp2_with fail
  generalize ((w.alloc (.cells #[.int .u8 had.st, .int .u32 had.inc] 33)).alloc (.cells #[.int .u8 told.st, .int .u32 told.inc] 33)).alloc (.cells #[.int .u8 0, .int .u32 0] 33) = w3 at *
  refine (newer_is told had w3).mono ?_
  rintro e w4 ⟨rfl, k4⟩
  have HB4 := hid (bxs_kept HB.out k4)
  clear k4 HB
  generalize w.heap.size + 1 + 1 = P4 at *
  generalize w.heap.size + 1 = P3 at *
  generalize w.heap.size = P2 at *
  obtain ⟨x0, x1⟩ := at_cells2 HB4.out.a2
  obtain ⟨y0, y1⟩ := at_cells2 HB4.out.a3
  obtain ⟨v0, v1, h4⟩ := HB4.out.a4
  obtain ⟨z0, z1⟩ := at_cells2 h4
  have zf := at_frozen h4
  clear h4
  have HE : Hid (belM told had = if nwr told had then told else had) := hid rfl
  cases hn : nwr told had with
  | true =>
    rw [hn, if_pos rfl] at HE
    clear hn
    go_wp2_with fail
    obtain ⟨hA, hK⟩ := bxs_end HB4.out told
    exact bodyPost_ret (v := .agg #[.int .u8 told.st, .int .u32 told.inc]) (resM Try.results26 _ rfl hA) rfl ⟨by rw [HE.out], hK⟩
  | false =>
    rw [hn, if_neg (by simp)] at HE
    clear hn
    go_wp2_with fail
    obtain ⟨hA, hK⟩ := bxs_end HB4.out had
    exact bodyPost_ret (v := .agg #[.int .u8 had.st, .int .u32 had.inc]) (resM Try.results26 _ rfl hA) rfl ⟨by rw [HE.out], hK⟩
set_option maxHeartbeats 1600000 in
theorem answered_is (had told : M) (w : World) (ho : okM told) : Calls Try.prog 27 #[.agg #[.int .u8 had.st, .int .u32 had.inc], .agg #[.int .u8 told.st, .int .u32 told.inc]] w (TellsM (selfM told had) w) := by
  have zs := zeroM
  have HB := hid (bxs_new w had told)
  have HI := hid ho.2
  have HE : Hid (selfM told had = if had.inc < told.inc ∨ (told.inc = had.inc ∧ told.st ≠ 1) then ⟨1, if told.inc < 4294967295 then told.inc + 1 else told.inc⟩ else had) := hid rfl
  clear ho
  go_enter Try.func27, Try.ntmps27
  go_upto_region 1 with fail
  generalize ((w.alloc (.cells #[.int .u8 had.st, .int .u32 had.inc] 33)).alloc (.cells #[.int .u8 told.st, .int .u32 told.inc] 33)).alloc (.cells #[.int .u8 0, .int .u32 0] 33) = w3 at *
  generalize w.heap.size + 1 + 1 = P4 at *
  generalize w.heap.size + 1 = P3 at *
  generalize w.heap.size = P2 at *
  obtain ⟨x0, x1⟩ := at_cells2 HB.out.a2
  obtain ⟨y0, y1⟩ := at_cells2 HB.out.a3
  obtain ⟨v0, v1, h4⟩ := HB.out.a4
  obtain ⟨z0, z1⟩ := at_cells2 h4
  have zf := at_frozen h4
  clear h4
  by_cases h1 : told.inc < had.inc
  · have d1 : decide (told.inc < had.inc) = true := by simpa using h1
    rw [if_neg (by omega)] at HE
    clear h1
    go_wp2_with fail
    obtain ⟨hA, hK⟩ := bxs_end HB.out had
    exact bodyPost_ret (v := .agg #[.int .u8 had.st, .int .u32 had.inc]) (resM Try.results27 _ rfl hA) rfl ⟨by rw [HE.out], hK⟩
  · have d1 : decide (told.inc < had.inc) = false := by simpa using h1
    by_cases h2 : told.inc = had.inc ∧ told.st = 1
    · have d2 : (told.inc == had.inc) = true := by simpa using h2.1
      have d3 : (told.st == 1) = true := by simpa using h2.2
      rw [if_neg (by omega)] at HE
      clear h1 h2
      go_wp2_with fail
      obtain ⟨hA, hK⟩ := bxs_end HB.out had
      exact bodyPost_ret (v := .agg #[.int .u8 had.st, .int .u32 had.inc]) (resM Try.results27 _ rfl hA) rfl ⟨by rw [HE.out], hK⟩
    · have HP : Hid (∃ b1 b2 : Bool, (told.inc == had.inc) = b1 ∧ (told.st == 1) = b2 ∧ (b1 && b2) = false) := hid ⟨_, _, rfl, rfl, by
        cases e1 : (told.inc == had.inc) <;> cases e2 : (told.st == 1) <;> simp_all⟩
      rw [if_pos (by omega)] at HE
      clear h1 h2
      by_cases h3 : told.inc < 4294967295
      · have d3 : decide (told.inc < 4294967295) = true := by simpa using h3
        have hw := (show IntKind.u32.wrap (told.inc + 1) = told.inc + 1 by rw [IntKind.wrap_u32]; have := HI.out; omega)
        rw [if_pos h3] at HE
        obtain ⟨b1, b2, e1, e2, e3⟩ := HP.out
        clear h3
        cases b1 with
        | true =>
          cases b2 with
          | true => cases e3
          | false =>
            clear e3
            go_wp2_with fail
            obtain ⟨hA, hK⟩ := bxs_end HB.out ⟨1, told.inc + 1⟩
            exact bodyPost_ret (v := .agg #[.int .u8 1, .int .u32 (told.inc + 1)]) (resM Try.results27 _ rfl hA) rfl ⟨by rw [HE.out], hK⟩
        | false =>
          clear e3 e2
          go_wp2_with fail
          obtain ⟨hA, hK⟩ := bxs_end HB.out ⟨1, told.inc + 1⟩
          exact bodyPost_ret (v := .agg #[.int .u8 1, .int .u32 (told.inc + 1)]) (resM Try.results27 _ rfl hA) rfl ⟨by rw [HE.out], hK⟩
      · have d3 : decide (told.inc < 4294967295) = false := by simpa using h3
        rw [if_neg h3] at HE
        obtain ⟨b1, b2, e1, e2, e3⟩ := HP.out
        clear h3
        cases b1 with
        | true =>
          cases b2 with
          | true => cases e3
          | false =>
            clear e3
            go_wp2_with fail
            obtain ⟨hA, hK⟩ := bxs_end HB.out ⟨1, told.inc⟩
            exact bodyPost_ret (v := .agg #[.int .u8 1, .int .u32 told.inc]) (resM Try.results27 _ rfl hA) rfl ⟨by rw [HE.out], hK⟩
        | false =>
          clear e3 e2
          go_wp2_with fail
          obtain ⟨hA, hK⟩ := bxs_end HB.out ⟨1, told.inc⟩
          exact bodyPost_ret (v := .agg #[.int .u8 1, .int .u32 told.inc]) (resM Try.results27 _ rfl hA) rfl ⟨by rw [HE.out], hK⟩
end Go.Proofs.Ytdcokccfannfmaa
