/- The statement FeedStreams' walk: true of any text and any row of cuts; nothing is turned. -/
import Derived.Test.YtjlojkcdglocbaaLawTake
import Derived.Test.YtjlojkcdglocbaaRefStream
namespace Go.Proofs.Ytjlojkcdglocbaa
open Go.ChangeShapes Go.WideShapes Go.ChangeAt Go.RowKit
set_option linter.unusedVariables false
set_option linter.unusedSimpArgs false

theorem streams_big (s : ByteArray) (oa : Option Addr) (len cap : Nat) (w : World) (h : 20000 < s.size ∨ 500 < len) : Calls Try.prog 3 #[.string s, .slice oa len cap] w fun e w' => e = .returned (.bool true) ∧ Kept w w' := by
  by_cases h1 : 20000 < s.size
  · have hb : (20000 : Int) < (s.size : Int) := by omega
    clear h h1
    go_enter Try.func3, Try.ntmps3
    go_wp2_with fail
    refine (fixed_any _).mono ?_
    rintro e w5 ⟨rfl, hk5⟩
    have HK5 := hid hk5
    clear hk5
    go_wp2_with fail
    go_ret
    exact ⟨rfl, HK5.out⟩
  · have hb : ¬ (20000 : Int) < (s.size : Int) := by omega
    have hb2 : (500 : Int) < (len : Int) := by omega
    clear h h1
    go_enter Try.func3, Try.ntmps3
    go_wp2_with fail
    refine (fixed_any _).mono ?_
    rintro e w5 ⟨rfl, hk5⟩
    have HK5 := hid hk5
    clear hk5
    go_wp2_with fail
    go_ret
    exact ⟨rfl, HK5.out⟩
set_option maxHeartbeats 1600000 in
set_option maxRecDepth 100000 in
theorem streams_law (s : ByteArray) (oa : Option Addr) (len cap b o : Nat) (Z : Nat → Int) (w : World) (hs : s.size ≤ maxLen) (hr : Row w oa len b o (fun i => .int .u16 (Z i))) (hZ : ∀ i, 0 ≤ Z i ∧ Z i < 65536) :
    Calls Try.prog 3 #[.string s, .slice oa len cap] w fun e w' => e = .returned (.bool true) ∧ Kept w w' := by
  by_cases hbig : 20000 < s.size ∨ 500 < len
  · exact streams_big s oa len cap w hbig
  have hb : ¬ (20000 : Int) < (s.size : Int) := by omega
  have hb2 : ¬ (500 : Int) < (len : Int) := by omega
  have HN : Hid (s.size ≤ 20000) := by show _ ≤ _; omega
  have HL : Hid (len ≤ 500) := by show _ ≤ _; omega
  obtain ⟨W, hW⟩ : ∃ W, W = w.heap.size := ⟨_, rfl⟩
  have HW : Hid (w.heap.size = W) := hW.symm
  have HR := hid hr
  have HZ := hid hZ
  have HbW : Hid (0 < len → b < W) := fun h => by rw [hW]; exact (hr.2.1 h).2
  clear hW hr hZ hs hbig
  go_enter Try.func3, Try.ntmps3
  go_wp2_with fail
  refine (new_fresh W w (by have := HW.out; omega)).mono ?_
  rintro e w1 ⟨F, rfl, hF, fF, hk1⟩
  have HfF := hid fF
  have HK1 := hid hk1
  clear hF fF hk1
  go_wp2_with fail
  refine (take_any W F fresh fresh_ok s HN.out oa len cap b o Z _ (fresh_feed HfF.out) (row_kept HR.out HK1.out) HZ.out HbW.out HL.out).mono ?_
  rintro e w3 ⟨v3, f3, rfl, r3, g3, o3, a3, t3⟩
  rw [fresh_abs] at r3 a3
  have HR3 := hid (roww_row r3)
  have HTl3 := hid (a3 ▸ tells_of g3 o3)
  have HK3 := hid (kept_fr HK1.out HW.out HfF.out.1 t3)
  clear r3 g3 o3 a3 t3 HfF HK1
  go_wp2_with fail
  refine (stream_any s HN.out _).mono ?_
  rintro e w4 ⟨v4, rfl, r4, k4⟩
  have HA4 := hid (roww_kept HR3.out k4)
  have HB4 := hid r4
  have HTl4 := hid (tells_kept HTl3.out k4)
  have HK4 := hid (kept_trans HK3.out k4)
  clear r4 k4 HR3 HTl3 HK3
  have HFew := hid (run_ok s.data.toList init_ok)
  generalize hσ : (runB (.line []) s.data.toList).2 = σ at *
  clear hσ
  go_wp2_with fail
  refine (fixed_any _).mono ?_
  rintro e w5 ⟨rfl, hk5⟩
  have HA5 := hid (roww_kept HA4.out hk5)
  have HB5 := hid (roww_kept HB4.out hk5)
  have HTl5 := hid (tells_kept HTl4.out hk5)
  have HK5 := hid (kept_trans HK4.out hk5)
  clear hk5 HA4 HB4 HTl4 HK4
  go_wp2_with fail
  refine (sameAll_any _ HFew.out.2.1 (by have h1 := HFew.out.2.2; have h2 := size_list s; have h3 := HN.out; omega) _ _ _ HA5.out HB5.out).mono ?_
  rintro e w6 ⟨rfl, hk6⟩
  have HTl6 := hid (tells_kept HTl5.out hk6)
  have HK6 := hid (kept_trans HK5.out hk6)
  clear hk6 HA5 HB5 HTl5 HK5 HFew
  go_wp2_with fail
  refine (over_tells HTl6.out).mono ?_
  rintro e wz ⟨rfl, hw⟩
  rw [hw]; clear hw wz
  have hoe : (overS σ == overS σ) = true := by simp
  go_wp2_with fail
  refine (held_tells HTl6.out).mono ?_
  rintro e wz ⟨rfl, hw⟩
  rw [hw]; clear hw wz
  have hhe : ((heldS σ : Int) == (heldS σ : Int)) = true := by simp
  go_wp2_with fail
  go_ret
  exact ⟨rfl, HK6.out⟩
end Go.Proofs.Ytjlojkcdglocbaa
