/- The contract of the reference's SameAll at two rows of the same commands: true. It turns nothing that was there. -/
import Derived.Test.YtjlojkcdglocbaaFeedOpen
import Derived.Test.YtjlojkcdglocbaaSame
namespace Go.Proofs.Ytjlojkcdglocbaa
open Go.ChangeShapes Go.WideShapes Go.ChangeAt Go.RowKit
set_option linter.unusedVariables false
set_option linter.unusedSimpArgs false

def LiesC (w : World) (A o : Nat) (t : Td) (kv : Value) : Prop :=
  w.cell? ⟨A, o, none⟩ = some (.int .i64 t.c.kind) ∧ w.cell? ⟨A, o + 1, none⟩ = some kv ∧ w.cell? ⟨A, o + 2, none⟩ = some (.int .u32 t.c.flags) ∧ w.cell? ⟨A, o + 3, none⟩ = some (.int .i64 t.c.exp) ∧ w.cell? ⟨A, o + 4, none⟩ = some (.string t.body) ∧ w.cell? ⟨A, o + 5, none⟩ = some (.bool t.c.quiet) ∧ w.cell? ⟨A, o + 6, none⟩ = some (.string t.c.reply)
def RowW (w : World) (v : Value) (ts : List Td) : Prop :=
  ∃ (a : Option Addr) (cap A : Nat), v = .slice a ts.length cap ∧ (0 < ts.length → a = some ⟨A, 0, none⟩ ∧ A < w.heap.size) ∧ ∀ i (h : i < ts.length), ∃ kv, LiesC w A (i * 7) ts[i] kv ∧ Keys w kv ts[i].c.keys
theorem lies_kept {w w' : World} {A o : Nat} {t : Td} {kv : Value} (h : LiesC w A o t kv) (hA : A < w.heap.size) (k : Kept w w') : LiesC w' A o t kv := by
  unfold LiesC at *
  simp only [kept_cell k hA]
  exact h
theorem roww_kept {w w' : World} {v : Value} {ts : List Td} (h : RowW w v ts) (k : Kept w w') : RowW w' v ts := by
  obtain ⟨a, cap, A, hv, h1, h2⟩ := h
  refine ⟨a, cap, A, hv, fun h => ⟨(h1 h).1, Nat.lt_of_lt_of_le (h1 h).2 k.2⟩, fun i hi => ?_⟩
  obtain ⟨kv, h3, h4⟩ := h2 i hi
  exact ⟨kv, lies_kept h3 (h1 (by omega)).2 k, keys_kept h4 k⟩
theorem roww_own {B : Nat} {w : World} {v : Value} {ps : List (Td × Value)} {ts : List Td} (e : ps.map Prod.fst = ts) (h : w.ownsRow B 38 7 v ps.length (ps.flatMap tdc)) (hk : ∀ p ∈ ps, Keys w p.2 p.1.c.keys) : RowW w v ts := by
  have hl : ts.length = ps.length := by rw [← e]; simp
  rcases id h.2 with ⟨hv, hn⟩ | ⟨g, cap, cur, hv, hB, hb, rest⟩
  · exact ⟨none, 0, 0, by rw [hv, hl, hn], fun h => by omega, fun i hi => by omega⟩
  · refine ⟨some ⟨g, 0, none⟩, cap, g, by rw [hv, hl], fun _ => ⟨rfl, (h.lt g (by rw [hv]; rfl)).2⟩, fun i hi => ?_⟩
    have hi' : i < ps.length := by omega
    have ht : ts[i] = ps[i].1 := by subst e; simp
    refine ⟨ps[i].2, ?_, ?_⟩
    · have hc : ∀ j, j < 7 → w.cell? ⟨g, i * 7 + j, none⟩ = (tdc ps[i])[j]? := fun j hj => by
        rw [own_cell h hv (i * 7 + j) (by rw [tdc_length]; omega), tdc_get ps i hi' j hj]
      rw [ht]
      exact ⟨hc 0 (by omega), hc 1 (by omega), hc 2 (by omega), hc 3 (by omega), hc 4 (by omega), hc 5 (by omega), hc 6 (by omega)⟩
    · rw [ht]
      exact hk _ (List.getElem_mem hi')
theorem roww_row {B : Nat} {w : World} {v : Value} {ts : List Td} (h : RowC B w v ts) : RowW w v ts := by
  obtain ⟨ps, e, h⟩ := h
  exact roww_own e h.1 h.2.2
set_option maxHeartbeats 1600000 in
set_option maxRecDepth 100000 in
theorem sameAll_any (ts : List Td) (hF : Few ts) (hn : ts.length ≤ 4294967300) (v u : Value) (w : World) (hv : RowW w v ts) (hu : RowW w u ts) :
    Calls Try.prog 12 #[v, u] w fun e w' => e = .returned (.bool true) ∧ Kept w w' := by
  obtain ⟨a, ca, A, rfl, ha, hA⟩ := hv
  obtain ⟨b, cb, B, rfl, hb, hB⟩ := hu
  obtain ⟨n, e⟩ : ∃ n, n = ts.length := ⟨_, rfl⟩
  have HL : Hid (ts.length = n) := e.symm
  have HA := hid hA
  have HB := hid hB
  have Ha : Hid (0 < n → a = some ⟨A, 0, none⟩ ∧ A < w.heap.size) := by rw [e]; exact ha
  have Hb : Hid (0 < n → b = some ⟨B, 0, none⟩ ∧ B < w.heap.size) := by rw [e]; exact hb
  have HFw := hid hF
  have hn' : Hid (n ≤ 4294967300) := by rw [e]; exact hn
  have g4 : ((n : Int) != (n : Int)) = false := by simp
  rw [← e]
  clear hA hB ha hb e hF hn
  go_enter Try.func12, Try.ntmps12
  go_wp2_with fail
  go_loopw [13] (fun j wr => ∃ k : Nat, k ≤ n ∧ j = .int .i64 k ∧ Hid (Kept w wr)) (fun j _ => n - (intOf j).toNat)
  case atStart => exact ⟨0, Nat.zero_le _, rfl, kept_refl w⟩
  case round =>
    obtain ⟨k, hk, rfl, HK⟩ := hrel
    by_cases hlt : k < n
    · obtain ⟨rfl, hAl⟩ := Ha.out (by omega)
      obtain ⟨rfl, hBl⟩ := Hb.out (by omega)
      have hkL : k < ts.length := by rw [HL.out]; exact hlt
      obtain ⟨ka, lA, kA⟩ := HA.out k hkL
      obtain ⟨kb, lB, kB⟩ := HB.out k hkL
      have lA' := lies_kept lA hAl HK.out
      have lB' := lies_kept lB hBl HK.out
      have hfew : (ts[k]).c.keys.length ≤ 4294967297 := by have := HFw.out _ (List.getElem_mem hkL); omega
      have HSame := hid (same_any (ts[k]).c (ts[k]).body hfew ka kb wr.drew (keys_kept kA (kept_drew HK.out)) (keys_kept kB (kept_drew HK.out)))
      clear kA kB hfew
      generalize ts[k] = t at *
      have HSt : Hid (∀ u, Kept w u → u.cell? ⟨A, k * 7, none⟩ = some (.int .i64 t.c.kind) ∧ u.cell? ⟨A, k * 7 + 1, none⟩ = some (ka) ∧ u.cell? ⟨A, k * 7 + 2, none⟩ = some (.int .u32 t.c.flags) ∧ u.cell? ⟨A, k * 7 + 3, none⟩ = some (.int .i64 t.c.exp) ∧ u.cell? ⟨A, k * 7 + 4, none⟩ = some (.string t.body) ∧ u.cell? ⟨A, k * 7 + 5, none⟩ = some (.bool t.c.quiet) ∧ u.cell? ⟨A, k * 7 + 6, none⟩ = some (.string t.c.reply) ∧ u.cell? ⟨B, k * 7, none⟩ = some (.int .i64 t.c.kind) ∧ u.cell? ⟨B, k * 7 + 1, none⟩ = some (kb) ∧ u.cell? ⟨B, k * 7 + 2, none⟩ = some (.int .u32 t.c.flags) ∧ u.cell? ⟨B, k * 7 + 3, none⟩ = some (.int .i64 t.c.exp) ∧ u.cell? ⟨B, k * 7 + 4, none⟩ = some (.string t.body) ∧ u.cell? ⟨B, k * 7 + 5, none⟩ = some (.bool t.c.quiet) ∧ u.cell? ⟨B, k * 7 + 6, none⟩ = some (.string t.c.reply)) := fun u hu => by
        obtain ⟨p0, p1, p2, p3, p4, p5, p6⟩ := lies_kept lA hAl hu
        obtain ⟨q0, q1, q2, q3, q4, q5, q6⟩ := lies_kept lB hBl hu
        exact ⟨p0, p1, p2, p3, p4, p5, p6, q0, q1, q2, q3, q4, q5, q6⟩
      have HS0 := hid (HSt.out wr.drew (kept_drew HK.out))
      clear lA lB hAl hBl lA' lB'
      have h62 : k < 4294967300 := by have := hn'.out; omega
      go_wp2_with fail
      refine wp_region_noPanic ?_
      refine wp_region_held_drew (S := (fun w' => w'.cell? ⟨A, k * 7, none⟩ = some (.int .i64 t.c.kind) ∧ w'.cell? ⟨A, k * 7 + 1, none⟩ = some (ka) ∧ w'.cell? ⟨A, k * 7 + 2, none⟩ = some (.int .u32 t.c.flags) ∧ w'.cell? ⟨A, k * 7 + 3, none⟩ = some (.int .i64 t.c.exp) ∧ w'.cell? ⟨A, k * 7 + 4, none⟩ = some (.string t.body) ∧ w'.cell? ⟨A, k * 7 + 5, none⟩ = some (.bool t.c.quiet) ∧ w'.cell? ⟨A, k * 7 + 6, none⟩ = some (.string t.c.reply) ∧ w'.cell? ⟨B, k * 7, none⟩ = some (.int .i64 t.c.kind) ∧ w'.cell? ⟨B, k * 7 + 1, none⟩ = some (kb) ∧ w'.cell? ⟨B, k * 7 + 2, none⟩ = some (.int .u32 t.c.flags) ∧ w'.cell? ⟨B, k * 7 + 3, none⟩ = some (.int .i64 t.c.exp) ∧ w'.cell? ⟨B, k * 7 + 4, none⟩ = some (.string t.body) ∧ w'.cell? ⟨B, k * 7 + 5, none⟩ = some (.bool t.c.quiet) ∧ w'.cell? ⟨B, k * 7 + 6, none⟩ = some (.string t.c.reply))) (by kernel_rfl) (HS0.out) (fun hHeld => ?_)
      refine wpAnyH_take (i := 0) (v := .slice (some ⟨A, 0, none⟩) n ca) rfl (by kernel_rfl) (by kernel_rfl) (by kernel_rfl) (fun _ _ _ h => h) (Or.inl ⟨by rfl, fun w hSw => by (try dsimp only at hSw); go_simp⟩) (by assumption) ?_
      try simp only [List.getElem_toArray, List.getElem_cons_zero, List.getElem_cons_succ, Act.put, List.setIfInBounds_toArray, List.set_cons_zero, List.set_cons_succ]
      refine wpAnyH_take (i := 1) (v := .int .i64 (k : Int)) rfl (by kernel_rfl) (by kernel_rfl) (by kernel_rfl) (fun _ _ _ h => h) (Or.inl ⟨by rfl, fun w hSw => by (try dsimp only at hSw); go_simp⟩) (by assumption) ?_
      try simp only [List.getElem_toArray, List.getElem_cons_zero, List.getElem_cons_succ, Act.put, List.setIfInBounds_toArray, List.set_cons_zero, List.set_cons_succ]
      refine wpAnyH_take (i := 2) (v := .pointer (some ⟨A, k * 7, none⟩)) rfl (by kernel_rfl) (by kernel_rfl) (by kernel_rfl) (fun _ _ _ h => h) (Or.inl ⟨by rfl, fun w hSw => by (try dsimp only at hSw); go_simp⟩) (by assumption) ?_
      try simp only [List.getElem_toArray, List.getElem_cons_zero, List.getElem_cons_succ, Act.put, List.setIfInBounds_toArray, List.set_cons_zero, List.set_cons_succ]
      refine wpAnyH_take (i := 3) (v := .agg #[.int .i64 t.c.kind, ka, .int .u32 t.c.flags, .int .i64 t.c.exp, .string t.body, .bool t.c.quiet, .string t.c.reply]) rfl (by kernel_rfl) (by kernel_rfl) (by kernel_rfl) (fun _ _ _ h => h) (Or.inl ⟨by rfl, fun w hSw => by (try dsimp only at hSw); go_simp⟩) (by assumption) ?_
      try simp only [List.getElem_toArray, List.getElem_cons_zero, List.getElem_cons_succ, Act.put, List.setIfInBounds_toArray, List.set_cons_zero, List.set_cons_succ]
      refine wpAnyH_take (i := 4) (v := .slice (some ⟨B, 0, none⟩) n cb) rfl (by kernel_rfl) (by kernel_rfl) (by kernel_rfl) (fun _ _ _ h => h) (Or.inl ⟨by rfl, fun w hSw => by (try dsimp only at hSw); go_simp⟩) (by assumption) ?_
      try simp only [List.getElem_toArray, List.getElem_cons_zero, List.getElem_cons_succ, Act.put, List.setIfInBounds_toArray, List.set_cons_zero, List.set_cons_succ]
      refine wpAnyH_take (i := 5) (v := .int .i64 (k : Int)) rfl (by kernel_rfl) (by kernel_rfl) (by kernel_rfl) (fun _ _ _ h => h) (Or.inl ⟨by rfl, fun w hSw => by (try dsimp only at hSw); go_simp⟩) (by assumption) ?_
      try simp only [List.getElem_toArray, List.getElem_cons_zero, List.getElem_cons_succ, Act.put, List.setIfInBounds_toArray, List.set_cons_zero, List.set_cons_succ]
      refine wpAnyH_take (i := 6) (v := .pointer (some ⟨B, k * 7, none⟩)) rfl (by kernel_rfl) (by kernel_rfl) (by kernel_rfl) (fun _ _ _ h => h) (Or.inl ⟨by rfl, fun w hSw => by (try dsimp only at hSw); go_simp⟩) (by assumption) ?_
      try simp only [List.getElem_toArray, List.getElem_cons_zero, List.getElem_cons_succ, Act.put, List.setIfInBounds_toArray, List.set_cons_zero, List.set_cons_succ]
      refine wpAnyH_take (i := 7) (v := .agg #[.int .i64 t.c.kind, kb, .int .u32 t.c.flags, .int .i64 t.c.exp, .string t.body, .bool t.c.quiet, .string t.c.reply]) rfl (by kernel_rfl) (by kernel_rfl) (by kernel_rfl) (fun _ _ _ h => h) (Or.inl ⟨by rfl, fun w hSw => by (try dsimp only at hSw); go_simp⟩) (by assumption) ?_
      try simp only [List.getElem_toArray, List.getElem_cons_zero, List.getElem_cons_succ, Act.put, List.setIfInBounds_toArray, List.set_cons_zero, List.set_cons_succ]
      refine wpAnyH_ready (rs := [8]) (by kernel_rfl) (by simp) ?_
      refine AllReadyH.cons (i := 8) rfl (fun K hK => ?_) AllReadyH.nil
      go_simp
      refine HSame.out.mono ?_
      rintro e w2 ⟨rfl, hk2⟩
      have HK2 := hid (kept_trans (kept_drew HK.out) hk2)
      have HS1 := hid (HSt.out _ HK2.out)
      clear hHeld
      show K _ _
      refine hK.out _ _ (HS1.out) (fun hHeld => ?_)
      clear hK K
      try simp only [List.getElem_toArray, List.getElem_cons_zero, List.getElem_cons_succ, Act.put, List.setIfInBounds_toArray, List.set_cons_zero, List.set_cons_succ]
      refine wpAnyH_take (i := 9) (v := .bool false) rfl (by kernel_rfl) (by kernel_rfl) (by kernel_rfl) (fun _ _ _ h => h) (Or.inl ⟨by rfl, fun w hSw => by (try dsimp only at hSw); go_simp⟩) (by assumption) ?_
      try simp only [List.getElem_toArray, List.getElem_cons_zero, List.getElem_cons_succ, Act.put, List.setIfInBounds_toArray, List.set_cons_zero, List.set_cons_succ]
      refine wpAnyH_done (by kernel_rfl) ?_ _
      refine NoPanic.normal ?_
      clear hHeld HS0
      go_wp2_with fail
      go_roundw
      case rel => exact ⟨k + 1, by omega, by go_num, HK2⟩
      case measure => simp [intOf]; omega
    · have he : k = n := by omega
      subst he
      go_wp2_with fail
      go_ret
      exact ⟨rfl, HK.out⟩
end Go.Proofs.Ytjlojkcdglocbaa
