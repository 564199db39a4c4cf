/- The law that what stands at any place is read as the reference says, walked: it answers true and turns nothing that was there. -/
import Derived.Test.YtlbpmehlfihpbaaDoorRefRead
namespace Go.Proofs.YtlbpmehlfihpbaaDoor
open Go.ChangeShapes Go.WideShapes Go.ChangeAt Go.RowKit
set_option linter.unusedVariables false
set_option linter.unusedSimpArgs false

def Rd (w : World) (x c : Int) (L : List R) (e : Ending) (w' : World) : Prop :=
  Kept w w' ∧ ∃ oa cap b, e = .returned (.tuple #[.slice oa L.length cap, .int .i64 x, .int .i64 c]) ∧ Row w' oa L.length cap b 0 L
theorem row_none (w : World) : Row w none 0 0 0 0 [] := ⟨rfl, Nat.le_refl _, by unfold maxLen; omega, fun _ => rfl, fun h => absurd h (by omega), fun i hi => absurd hi (by simp)⟩
theorem rd_err {w : World} {n c : Nat} {e : Ending} {w' : World} (h : ReadC w n (.err c) e w') : Rd w 0 c [] e w' := ⟨h.1, none, 0, 0, h.2, row_none w'⟩
theorem rd_ok {w : World} {n : Nat} {l : List It} {r : List UInt8} (hm : ∀ x ∈ l, x.may) {e : Ending} {w' : World} (h : ReadC w n (.ok l r) e w') : Rd w ((n : Int) - (r.length : Int)) 0 (l.map recOf) e w' := by
  obtain ⟨hk, v, he, ho⟩ := h
  obtain ⟨oa, cap, b, rfl, hr⟩ := row_own ho (by simp) (fun x hx => by
    obtain ⟨y, hy, rfl⟩ := List.mem_map.1 hx
    exact rec_ok (hm y hy))
  refine ⟨hk, oa, cap, b, ?_, ?_⟩
  · rw [List.length_map]; exact he
  · rw [List.length_map]; exact hr
set_option maxHeartbeats 1600000 in
set_option maxRecDepth 100000 in
theorem reads_main (s : ByteArray) (z x c : Int) (L : List R) (w : World) (hB : Base w) (hs : ¬ (20000 : Int) < (s.size : Int))
    (h1 : ∀ u, Base u → Calls Tryd.prog 14 #[.string s, .int .i64 z] u (Rd u x c L)) (h2 : ∀ u, Calls Tryd.prog 15 #[.string s, .int .i64 z] u (Rd u x c L)) :
    Calls Tryd.prog 4 #[.string s, .int .i64 z] w fun e w' => e = .returned (.bool true) ∧ Kept w w' := by
  have HB := hid hB
  have hR := h1 w hB
  have hxx : (x == x) = true := by simp
  have hcc : (c == c) = true := by simp
  clear h1 hB
  generalize L.length = n at *
  go_enter Tryd.func4, Tryd.ntmps4
  go_wp2_with fail
  refine hR.mono ?_
  rintro e w1 ⟨hk1, oa1, cap1, b1, rfl, hr1⟩
  have HK1 := hid hk1
  have HR1 := hid hr1
  have hT := h2 w1
  clear hR hk1 hr1 h2
  go_wp2_with fail
  refine hT.mono ?_
  rintro e w2 ⟨hk2, oa2, cap2, b2, rfl, hr2⟩
  have HK2 := hid (kept_trans HK1.out hk2)
  have HR2 := hid (row_kept HR1.out hk2)
  have HR3 := hid hr2
  have hF := fixed_any w2 (base_kept HB.out HK2.out)
  clear hT hk2 hr2 HK1 HR1
  go_wp2_with fail
  refine hF.mono ?_
  rintro e w3 ⟨rfl, hk3⟩
  have HK3 := hid (kept_trans HK2.out hk3)
  have hS := same_rows _ _ _ _ _ _ _ _ _ _ w3 (row_kept HR2.out hk3) (row_kept HR3.out hk3)
  clear hF hk3 HK2 HR2 HR3
  go_wp2_with fail
  refine hS.mono ?_
  rintro e w4 ⟨rfl, hk4⟩
  have HK4 := hid (kept_trans HK3.out hk4)
  clear hS hk4 HK3
  go_wp2
  go_ret
  exact ⟨rfl, HK4.out⟩
set_option maxHeartbeats 1600000 in
set_option maxRecDepth 100000 in
theorem refRead_bad (s : ByteArray) (z : Int) (h : z < 0 ∨ (s.size : Int) < z) (w : World) :
    Calls Tryd.prog 15 #[.string s, .int .i64 z] w fun e w' => e = .returned (.tuple #[.slice none 0 0, .int .i64 0, .int .i64 1]) ∧ w' = w := by
  by_cases h1 : z < 0
  · clear h
    go_enter Tryd.func15, Tryd.ntmps15
    go_wp2
    go_ret3
    exact ⟨rfl, rfl⟩
  · have h2 : (s.size : Int) < z := h.resolve_left h1
    clear h
    go_enter Tryd.func15, Tryd.ntmps15
    go_wp2
    go_ret3
    exact ⟨rfl, rfl⟩
theorem reads_walk (s : ByteArray) (z : Int) (w : World) (hB : Base w) (ws : s.size ≤ maxLen) (wz : (Lit.int .i64 z).wf = true) :
    Calls Tryd.prog 4 #[.string s, .int .i64 z] w fun e w' => e = .returned (.bool true) ∧ Kept w w' := by
  by_cases hs : (20000 : Int) < (s.size : Int)
  · have hF := fixed_any w hB
    go_enter Tryd.func4, Tryd.ntmps4
    go_wp2_with fail
    refine hF.mono ?_
    rintro e w5 ⟨rfl, hk5⟩
    go_wp2
    go_ret
    exact ⟨rfl, hk5⟩
  · by_cases hz : z < 0 ∨ (s.size : Int) < z
    · exact reads_main s z 0 1 [] w hB hs (fun u _ => (read_bad s z hz u).mono fun e w' ⟨he, hw⟩ => ⟨by rw [hw]; exact kept_refl u, none, 0, 0, he, row_none w'⟩) (fun u => (refRead_bad s z hz u).mono fun e w' ⟨he, hw⟩ => ⟨by rw [hw]; exact kept_refl u, none, 0, 0, he, row_none w'⟩)
    · obtain ⟨a, rfl⟩ : ∃ a : Nat, z = (a : Int) := ⟨z.toNat, by omega⟩
      have ha : a ≤ s.size := by omega
      have h1 := fun u hu => read_at s a ha (by omega) u hu
      have h2 := fun u => refRead_at s a ha (by omega) u
      cases ho : readOf (s.data.toList.drop a) using Out.each with
      | err c =>
        rw [ho] at h1 h2
        exact reads_main s a 0 c [] w hB hs (fun u hu => (h1 u hu).mono fun e w' h => rd_err h) (fun u => (h2 u).mono fun e w' h => rd_err h)
      | ok l r =>
        obtain ⟨-, hm⟩ := read_inv _ _ (Nat.le_refl _) _ _ ho
        rw [ho] at h1 h2
        exact reads_main s a _ 0 (l.map recOf) w hB hs (fun u hu => (h1 u hu).mono fun e w' h => rd_ok hm h) (fun u => (h2 u).mono fun e w' h => rd_ok hm h)
end Go.Proofs.YtlbpmehlfihpbaaDoor
