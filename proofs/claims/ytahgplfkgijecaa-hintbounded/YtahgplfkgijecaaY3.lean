/- The contract of the landed Ack. The contract of the landed Add. -/
import Derived.Test.YtahgplfkgijecaaY2
import Derived.Test.YtahgplfkgijecaaHpAck
import Derived.Test.YtahgplfkgijecaaGPut
import Derived.Test.YtahgplfkgijecaaHpAdd

namespace Go.Proofs.Ytahgplfkgijecaa
open Go.ChangeShapes Go.WideShapes Go.ChangeAt Go.RowKit
set_option linter.unusedVariables false
set_option linter.unusedSimpArgs false
set_option maxRecDepth 100000

def AckE (X : Nat) (s : Hs) (F : Nat → Prop) (b : Bool) (l : List Ht) (w : World) (e : Ending) (w' : World) : Prop := ∃ F', e = .returned (.bool b) ∧ HO w' X ⟨s.n, l⟩ F' ∧ Sd F w F' w'
theorem ack_same {X : Nat} {s : Hs} {F : Nat → Prop} {w w' : World} (h : HO w X s F) (k : Kept w w') : AckE X s F false s.l w (.returned (.bool false)) w' := ⟨F, rfl, ho_stay h (fun b hb => kept_block k (ho_lt h hb)), sd_kept k⟩
theorem cmp_lt_iff (a b : Stp) : decide (0 < cmp a b) = lt b a := by
  rw [Bool.eq_iff_iff, decide_eq_true_eq, lt_iff]
  have h1 := cmp_zero a b
  constructor
  · intro h
    by_cases hl : Lt b a
    · exact hl
    · exfalso
      by_cases he : a = b
      · rw [h1.2 he] at h; omega
      · by_cases hl2 : Lt a b
        · rw [cmp_lt hl2] at h; omega
        · exact he (lt_total hl2 hl)
  · intro h
    rw [cmp_gt h]
    decide
set_option maxHeartbeats 12800000 in
theorem ack_is (X : Nat) (t : Hs) (F : Nat → Prop) (key : ByteArray) (s : Stp) (node : Int) (w : World) (h : HO w X t F) (g : Hg t.n t.l) (h1 : 0 ≤ node) (h2 : node < 256) : Calls Try.prog 14 #[.pointer (some ⟨X, 0, none⟩), .string key, .agg #[.int .u64 s.p, .int .u32 s.l, .int .u8 s.n], .int .u8 node] w (AckE X t F (mayK t.l key s node) (ackL t.l key s node) w) := by
  have HH := hid h
  have kz := kept_alloc (kept_refl w) (.cells #[.int .u64 s.p, .int .u32 s.l, .int .u8 s.n] 33)
  have aZ := at_new w #[.int .u64 s.p, .int .u32 s.l, .int .u8 s.n] 33
  obtain ⟨w1, hw1⟩ : ∃ u, w.alloc (.cells #[.int .u64 s.p, .int .u32 s.l, .int .u8 s.n] 33) = u := ⟨_, rfl⟩
  obtain ⟨Z, hZ⟩ : ∃ u, w.heap.size = u := ⟨_, rfl⟩
  rw [hw1] at kz aZ
  rw [hZ] at aZ
  have HK1 := hid kz
  have HZ := hid aZ
  clear kz aZ
  by_cases hhi : 63 < node
  · have hd : (64 : Int) ≤ node := by omega
    have HM : Hid (mayK t.l key s node = false) := hid (mayK_high hhi)
    clear h h1 h2 hhi
    go_enter Try.func14, Try.ntmps14
    go_wp2_with fail
    go_ret
    rw [ackL_no HM.out, HM.out]
    exact ack_same HH.out HK1.out
  obtain ⟨k, rfl⟩ : ∃ k : Nat, node = (k : Int) := ⟨node.toNat, by omega⟩
  have hk64 : k < 64 := by omega
  have hkd : ¬ (64 : Int) ≤ (k : Int) := by omega
  obtain ⟨v, hX, hO, hF⟩ := h
  have HF : Hid (∀ b, F b ↔ (b = X ∨ v.ownBlock = some b)) := hid hF
  have hP := place_any X t.n t.l v (by have := g.len; have := g.n2; omega) g.rise key w1 (at_kept hX HK1.out) (og_stays hO HK1.out)
  have HX := hid hX
  have HOr := hid hO
  have HR := hid g.rise
  have HBt := hid (fun u => bit_any k hk64 u)
  have HHs0 := hid (fun (x : Ht) (u : World) => has_any x k hk64 u)
  have hll : t.l.length ≤ 64 := by have := g.len; have := g.n2; omega
  obtain ⟨n, l⟩ := t
  simp only at hP hll HH HX HOr HR
  clear h1 h2 hhi hX hO hF g
  go_enter Try.func14, Try.ntmps14
  go_wp2_with fail
  refine hP.mono ?_
  rintro e w2 ⟨i, hc, rfl, k2⟩
  have HK2 := hid (kept_trans HK1.out k2)
  have HZ2 := hid (at_kept HZ.out k2)
  cases hh : hit l key i with
  | false =>
    have HM : Hid (mayK l key s (k : Int) = false) := hid (mayK_none (cut_none HR.out hc hh))
    clear hP k2 hc hh
    go_wp2_with fail
    go_quiet (fail)
    go_wp2_with fail
    go_ret
    rw [ackL_no HM.out, HM.out]
    exact ack_same HH.out (kept_trans HK2.out (kept_drewN (kept_refl w2) _))
  | true =>
    have hf := cut_fnd hc hh
    obtain ⟨x, hx, -⟩ := hit_some hh
    have him : i < l.length := (List.getElem?_eq_some_iff.1 hx).1
    have HM := hid (mayK_some (s := s) hf hx (by omega : k ≤ 63))
    have HAk : Hid (mayK l key s (k : Int) = true → ackL l key s (k : Int) = l.set i ⟨x.r, more x.has k⟩) := hid (fun hm => ackL_yes hf hx hm)
    obtain ⟨G, cap, e5⟩ := og_some HOr.out (fun e => by
      subst e
      obtain ⟨a, c, e, _⟩ := og_is encH_ok HOr.out
      injection e with e1 e2
      omega)
    subst e5
    have HXi := hid hx
    have HXG : Hid (X ≠ G) := hid (fun e => ho_ne HX.out HOr.out G rfl e.symm)
    have HCm := hid (fun u => compare_any x.r.s s u)
    have HHs := hid (fun u => HHs0.out x u)
    generalize hm : l.length = m at *
    have HS : Hid (∀ u, Kept w2 u → (u.cell? ⟨X, 1, none⟩ = some (.slice (some ⟨G, 0, none⟩) m cap)) ∧ (u.cell? ⟨Z, 0, none⟩ = some (.int .u64 s.p)) ∧ (u.cell? ⟨Z, 1, none⟩ = some (.int .u32 s.l)) ∧ (u.cell? ⟨Z, 2, none⟩ = some (.int .u8 s.n)) ∧ (u.cell? ⟨G, i * 9, none⟩ = some (.string x.r.key)) ∧ (u.cell? ⟨G, i * 9 + 1, none⟩ = some (.int .u64 x.r.s.p)) ∧ (u.cell? ⟨G, i * 9 + 2, none⟩ = some (.int .u32 x.r.s.l)) ∧ (u.cell? ⟨G, i * 9 + 3, none⟩ = some (.int .u8 x.r.s.n)) ∧ (u.cell? ⟨G, i * 9 + 4, none⟩ = some (.int .u8 x.r.kind)) ∧ (u.cell? ⟨G, i * 9 + 5, none⟩ = some (.int .u32 x.r.flags)) ∧ (u.cell? ⟨G, i * 9 + 6, none⟩ = some (.int .u64 x.r.exp)) ∧ (u.cell? ⟨G, i * 9 + 7, none⟩ = some (.string x.r.body)) ∧ (u.cell? ⟨G, i * 9 + 8, none⟩ = some (.int .u64 (ackI x.has 64)))) := hid (fun u ku => by
      have a := at_kept HX.out (kept_trans HK2.out ku)
      have z := at_kept HZ2.out ku
      have r := rg_H (rg_own encH_ok (og_stays HOr.out (kept_trans HK2.out ku))) HXi.out
      simp only [Nat.zero_add] at r
      exact ⟨at_cell a 1, at_cell z 0, at_cell z 1, at_cell z 2, r⟩)
    have hor := or_bit x.has hk64
    have hi0 : decide ((i : Int) < 0) = false := by simp
    have hiz : (i : Int) < (m : Int) := by omega
    have HKd : Hid (Kept w2 w2.drew) := hid (kept_drewN (kept_refl w2) 1)
    have hS0 := HS.out w2 (kept_refl w2)
    have hSd := HS.out w2.drew HKd.out
    have HHo := hid HH.out
    clear hP k2 hc hh hf hx him
    have HCt := hid (cmp_lt_iff x.r.s s)
    generalize cmp x.r.s s = cv at *
    cases hlt : lt s x.r.s with
    | true =>
      have hcv : decide (0 < cv) = true := HCt.out.trans hlt
      have hcz : (0 : Int) < cv := of_decide_eq_true hcv
      have HM2 : Hid (mayK l key s (k : Int) = false) := hid (by rw [HM.out, hlt]; rfl)
      clear hlt
      go_wp2_with fail
      refine wp_region_noPanic ?_
      refine wp_region_held_drew (S := (fun w' => (w'.cell? ⟨X, 1, none⟩ = some (.slice (some ⟨G, 0, none⟩) m cap)) ∧ (w'.cell? ⟨Z, 0, none⟩ = some (.int .u64 s.p)) ∧ (w'.cell? ⟨Z, 1, none⟩ = some (.int .u32 s.l)) ∧ (w'.cell? ⟨Z, 2, none⟩ = some (.int .u8 s.n)) ∧ (w'.cell? ⟨G, i * 9, none⟩ = some (.string x.r.key)) ∧ (w'.cell? ⟨G, i * 9 + 1, none⟩ = some (.int .u64 x.r.s.p)) ∧ (w'.cell? ⟨G, i * 9 + 2, none⟩ = some (.int .u32 x.r.s.l)) ∧ (w'.cell? ⟨G, i * 9 + 3, none⟩ = some (.int .u8 x.r.s.n)) ∧ (w'.cell? ⟨G, i * 9 + 4, none⟩ = some (.int .u8 x.r.kind)) ∧ (w'.cell? ⟨G, i * 9 + 5, none⟩ = some (.int .u32 x.r.flags)) ∧ (w'.cell? ⟨G, i * 9 + 6, none⟩ = some (.int .u64 x.r.exp)) ∧ (w'.cell? ⟨G, i * 9 + 7, none⟩ = some (.string x.r.body)) ∧ (w'.cell? ⟨G, i * 9 + 8, none⟩ = some (.int .u64 (ackI x.has 64))))) (by kernel_rfl) (by assumption) (fun hHeld => ?_)
      generalize w2.drew = wd at *
      refine wpAnyH_take (i := 0) (v := .bool true) rfl (by kernel_rfl) (by kernel_rfl) (by kernel_rfl) (fun _ _ _ h => h) (Or.inl ⟨by rfl, fun w hSw => by (try dsimp only at hSw); go_simp⟩) (by assumption) ?_
      try simp only [List.getElem_toArray, List.getElem_cons_zero, List.getElem_cons_succ, Act.put, List.setIfInBounds_toArray, List.set_cons_zero, List.set_cons_succ]
      refine wpAnyH_take (i := 1) (v := .bool false) rfl (by kernel_rfl) (by kernel_rfl) (by kernel_rfl) (fun _ _ _ h => h) (Or.inl ⟨by rfl, fun w hSw => by (try dsimp only at hSw); go_simp⟩) (by assumption) ?_
      try simp only [List.getElem_toArray, List.getElem_cons_zero, List.getElem_cons_succ, Act.put, List.setIfInBounds_toArray, List.set_cons_zero, List.set_cons_succ]
      refine wpAnyH_take (i := 2) (v := .bool false) rfl (by kernel_rfl) (by kernel_rfl) (by kernel_rfl) (fun _ _ _ h => h) (Or.inl ⟨by rfl, fun w hSw => by (try dsimp only at hSw); go_simp⟩) (by assumption) ?_
      try simp only [List.getElem_toArray, List.getElem_cons_zero, List.getElem_cons_succ, Act.put, List.setIfInBounds_toArray, List.set_cons_zero, List.set_cons_succ]
      refine wpAnyH_take (i := 3) (v := .pointer (some ⟨X, 0, none⟩)) rfl (by kernel_rfl) (by kernel_rfl) (by kernel_rfl) (fun _ _ _ h => h) (Or.inl ⟨by rfl, fun w hSw => by (try dsimp only at hSw); go_simp⟩) (by assumption) ?_
      try simp only [List.getElem_toArray, List.getElem_cons_zero, List.getElem_cons_succ, Act.put, List.setIfInBounds_toArray, List.set_cons_zero, List.set_cons_succ]
      refine wpAnyH_take (i := 4) (v := .pointer (some ⟨X, 0, none⟩)) rfl (by kernel_rfl) (by kernel_rfl) (by kernel_rfl) (fun _ _ _ h => h) (Or.inl ⟨by rfl, fun w hSw => by (try dsimp only at hSw); go_simp⟩) (by assumption) ?_
      try simp only [List.getElem_toArray, List.getElem_cons_zero, List.getElem_cons_succ, Act.put, List.setIfInBounds_toArray, List.set_cons_zero, List.set_cons_succ]
      refine wpAnyH_take (i := 5) (v := .pointer (some ⟨X, 1, none⟩)) rfl (by kernel_rfl) (by kernel_rfl) (by kernel_rfl) (fun _ _ _ h => h) (Or.inl ⟨by rfl, fun w hSw => by (try dsimp only at hSw); go_simp⟩) (by assumption) ?_
      try simp only [List.getElem_toArray, List.getElem_cons_zero, List.getElem_cons_succ, Act.put, List.setIfInBounds_toArray, List.set_cons_zero, List.set_cons_succ]
      refine wpAnyH_take (i := 6) (v := .slice (some ⟨G, 0, none⟩) m cap) rfl (by kernel_rfl) (by kernel_rfl) (by kernel_rfl) (fun _ _ _ h => h) (Or.inl ⟨by rfl, fun w hSw => by (try dsimp only at hSw); go_simp⟩) (by assumption) ?_
      try simp only [List.getElem_toArray, List.getElem_cons_zero, List.getElem_cons_succ, Act.put, List.setIfInBounds_toArray, List.set_cons_zero, List.set_cons_succ]
      refine wpAnyH_take (i := 7) (v := .int .i64 (i : Int)) rfl (by kernel_rfl) (by kernel_rfl) (by kernel_rfl) (fun _ _ _ h => h) (Or.inl ⟨by rfl, fun w hSw => by (try dsimp only at hSw); go_simp⟩) (by assumption) ?_
      try simp only [List.getElem_toArray, List.getElem_cons_zero, List.getElem_cons_succ, Act.put, List.setIfInBounds_toArray, List.set_cons_zero, List.set_cons_succ]
      refine wpAnyH_take (i := 8) (v := .pointer (some ⟨G, i * 9, none⟩)) rfl (by kernel_rfl) (by kernel_rfl) (by kernel_rfl) (fun _ _ _ h => h) (Or.inl ⟨by rfl, fun w hSw => by (try dsimp only at hSw); go_simp⟩) (by assumption) ?_
      try simp only [List.getElem_toArray, List.getElem_cons_zero, List.getElem_cons_succ, Act.put, List.setIfInBounds_toArray, List.set_cons_zero, List.set_cons_succ]
      refine wpAnyH_take (i := 9) (v := .pointer (some ⟨G, i * 9, none⟩)) rfl (by kernel_rfl) (by kernel_rfl) (by kernel_rfl) (fun _ _ _ h => h) (Or.inl ⟨by rfl, fun w hSw => by (try dsimp only at hSw); go_simp⟩) (by assumption) ?_
      try simp only [List.getElem_toArray, List.getElem_cons_zero, List.getElem_cons_succ, Act.put, List.setIfInBounds_toArray, List.set_cons_zero, List.set_cons_succ]
      refine wpAnyH_take (i := 10) (v := .pointer (some ⟨G, i * 9 + 1, none⟩)) rfl (by kernel_rfl) (by kernel_rfl) (by kernel_rfl) (fun _ _ _ h => h) (Or.inl ⟨by rfl, fun w hSw => by (try dsimp only at hSw); go_simp⟩) (by assumption) ?_
      try simp only [List.getElem_toArray, List.getElem_cons_zero, List.getElem_cons_succ, Act.put, List.setIfInBounds_toArray, List.set_cons_zero, List.set_cons_succ]
      refine wpAnyH_take (i := 11) (v := .agg #[.int .u64 x.r.s.p, .int .u32 x.r.s.l, .int .u8 x.r.s.n]) rfl (by kernel_rfl) (by kernel_rfl) (by kernel_rfl) (fun _ _ _ h => h) (Or.inl ⟨by rfl, fun w hSw => by (try dsimp only at hSw); go_simp⟩) (by assumption) ?_
      try simp only [List.getElem_toArray, List.getElem_cons_zero, List.getElem_cons_succ, Act.put, List.setIfInBounds_toArray, List.set_cons_zero, List.set_cons_succ]
      refine wpAnyH_take (i := 12) (v := .agg #[.int .u64 s.p, .int .u32 s.l, .int .u8 s.n]) rfl (by kernel_rfl) (by kernel_rfl) (by kernel_rfl) (fun _ _ _ h => h) (Or.inl ⟨by rfl, fun w hSw => by (try dsimp only at hSw); go_simp⟩) (by assumption) ?_
      try simp only [List.getElem_toArray, List.getElem_cons_zero, List.getElem_cons_succ, Act.put, List.setIfInBounds_toArray, List.set_cons_zero, List.set_cons_succ]
      refine wpAnyH_ready (rs := [13]) (by kernel_rfl) (by simp) ?_
      refine AllReadyH.cons (i := 13) rfl (fun K hK => ?_) AllReadyH.nil
      go_simp
      refine (HCm.out wd).mono ?_
      rintro e w5 ⟨rfl, k5⟩
      have HK5 := hid (kept_trans HKd.out k5)
      have hS := HS.out w5 HK5.out
      clear k5
      clear hHeld
      show K _ _
      refine hK.out _ _ (by assumption) (fun hHeld => ?_)
      clear hK K
      try simp only [List.getElem_toArray, List.getElem_cons_zero, List.getElem_cons_succ, Act.put, List.setIfInBounds_toArray, List.set_cons_zero, List.set_cons_succ]
      refine wpAnyH_take (i := 14) (v := .bool true) rfl (by kernel_rfl) (by kernel_rfl) (by kernel_rfl) (fun _ _ _ h => h) (Or.inl ⟨by rfl, fun w hSw => by (try dsimp only at hSw); go_simp⟩) (by assumption) ?_
      try simp only [List.getElem_toArray, List.getElem_cons_zero, List.getElem_cons_succ, Act.put, List.setIfInBounds_toArray, List.set_cons_zero, List.set_cons_succ]
      refine wpAnyH_take (i := 15) (v := .bool true) rfl (by kernel_rfl) (by kernel_rfl) (by kernel_rfl) (fun _ _ _ h => h) (Or.inl ⟨by rfl, fun w hSw => by (try dsimp only at hSw); go_simp⟩) (by assumption) ?_
      try simp only [List.getElem_toArray, List.getElem_cons_zero, List.getElem_cons_succ, Act.put, List.setIfInBounds_toArray, List.set_cons_zero, List.set_cons_succ]
      refine wpAnyH_take (i := 16) (v := .bool true) rfl (by kernel_rfl) (by kernel_rfl) (by kernel_rfl) (fun _ _ _ h => h) (Or.inl ⟨by rfl, fun w hSw => by (try dsimp only at hSw); go_simp⟩) (by assumption) ?_
      try simp only [List.getElem_toArray, List.getElem_cons_zero, List.getElem_cons_succ, Act.put, List.setIfInBounds_toArray, List.set_cons_zero, List.set_cons_succ]
      refine wpAnyH_take (i := 17) (v := undef) rfl (by kernel_rfl) (by kernel_rfl) (by kernel_rfl) (fun _ _ _ h => h) (Or.inr ⟨by rfl, rfl⟩) (by assumption) ?_
      try simp only [List.getElem_toArray, List.getElem_cons_zero, List.getElem_cons_succ, Act.put, List.setIfInBounds_toArray, List.set_cons_zero, List.set_cons_succ]
      refine wpAnyH_take (i := 18) (v := undef) rfl (by kernel_rfl) (by kernel_rfl) (by kernel_rfl) (fun _ _ _ h => h) (Or.inr ⟨by rfl, rfl⟩) (by assumption) ?_
      try simp only [List.getElem_toArray, List.getElem_cons_zero, List.getElem_cons_succ, Act.put, List.setIfInBounds_toArray, List.set_cons_zero, List.set_cons_succ]
      refine wpAnyH_take (i := 19) (v := undef) rfl (by kernel_rfl) (by kernel_rfl) (by kernel_rfl) (fun _ _ _ h => h) (Or.inr ⟨by rfl, rfl⟩) (by assumption) ?_
      try simp only [List.getElem_toArray, List.getElem_cons_zero, List.getElem_cons_succ, Act.put, List.setIfInBounds_toArray, List.set_cons_zero, List.set_cons_succ]
      refine wpAnyH_take (i := 20) (v := undef) rfl (by kernel_rfl) (by kernel_rfl) (by kernel_rfl) (fun _ _ _ h => h) (Or.inr ⟨by rfl, rfl⟩) (by assumption) ?_
      try simp only [List.getElem_toArray, List.getElem_cons_zero, List.getElem_cons_succ, Act.put, List.setIfInBounds_toArray, List.set_cons_zero, List.set_cons_succ]
      refine wpAnyH_take (i := 21) (v := undef) rfl (by kernel_rfl) (by kernel_rfl) (by kernel_rfl) (fun _ _ _ h => h) (Or.inr ⟨by rfl, rfl⟩) (by assumption) ?_
      try simp only [List.getElem_toArray, List.getElem_cons_zero, List.getElem_cons_succ, Act.put, List.setIfInBounds_toArray, List.set_cons_zero, List.set_cons_succ]
      refine wpAnyH_take (i := 22) (v := undef) rfl (by kernel_rfl) (by kernel_rfl) (by kernel_rfl) (fun _ _ _ h => h) (Or.inr ⟨by rfl, rfl⟩) (by assumption) ?_
      try simp only [List.getElem_toArray, List.getElem_cons_zero, List.getElem_cons_succ, Act.put, List.setIfInBounds_toArray, List.set_cons_zero, List.set_cons_succ]
      refine wpAnyH_take (i := 23) (v := undef) rfl (by kernel_rfl) (by kernel_rfl) (by kernel_rfl) (fun _ _ _ h => h) (Or.inr ⟨by rfl, rfl⟩) (by assumption) ?_
      try simp only [List.getElem_toArray, List.getElem_cons_zero, List.getElem_cons_succ, Act.put, List.setIfInBounds_toArray, List.set_cons_zero, List.set_cons_succ]
      refine wpAnyH_take (i := 24) (v := undef) rfl (by kernel_rfl) (by kernel_rfl) (by kernel_rfl) (fun _ _ _ h => h) (Or.inr ⟨by rfl, rfl⟩) (by assumption) ?_
      try simp only [List.getElem_toArray, List.getElem_cons_zero, List.getElem_cons_succ, Act.put, List.setIfInBounds_toArray, List.set_cons_zero, List.set_cons_succ]
      refine wpAnyH_take (i := 25) (v := undef) rfl (by kernel_rfl) (by kernel_rfl) (by kernel_rfl) (fun _ _ _ h => h) (Or.inr ⟨by rfl, rfl⟩) (by assumption) ?_
      try simp only [List.getElem_toArray, List.getElem_cons_zero, List.getElem_cons_succ, Act.put, List.setIfInBounds_toArray, List.set_cons_zero, List.set_cons_succ]
      refine wpAnyH_take (i := 26) (v := .bool true) rfl (by kernel_rfl) (by kernel_rfl) (by kernel_rfl) (fun _ _ _ h => h) (Or.inl ⟨by rfl, fun w hSw => by (try dsimp only at hSw); go_simp⟩) (by assumption) ?_
      try simp only [List.getElem_toArray, List.getElem_cons_zero, List.getElem_cons_succ, Act.put, List.setIfInBounds_toArray, List.set_cons_zero, List.set_cons_succ]
      refine wpAnyH_done (by kernel_rfl) ?_ _
      refine NoPanic.normal ?_
      clear hSd hS0 hS hHeld
      go_wp2_with fail
      go_ret
      rw [ackL_no HM2.out, HM2.out]
      exact ack_same HH.out (kept_trans HK2.out HK5.out)
    | false =>
      have hcv : decide (0 < cv) = false := HCt.out.trans hlt
      have hcz : ¬ (0 : Int) < cv := of_decide_eq_false hcv
      cases hb : x.has k with
      | true =>
        rw [hb] at HHs
        have HM2 : Hid (mayK l key s (k : Int) = false) := hid (by rw [HM.out, hlt, hb]; rfl)
        clear hlt hb
        go_wp2_with fail
        refine wp_region_noPanic ?_
        refine wp_region_held_drew (S := (fun w' => (w'.cell? ⟨X, 1, none⟩ = some (.slice (some ⟨G, 0, none⟩) m cap)) ∧ (w'.cell? ⟨Z, 0, none⟩ = some (.int .u64 s.p)) ∧ (w'.cell? ⟨Z, 1, none⟩ = some (.int .u32 s.l)) ∧ (w'.cell? ⟨Z, 2, none⟩ = some (.int .u8 s.n)) ∧ (w'.cell? ⟨G, i * 9, none⟩ = some (.string x.r.key)) ∧ (w'.cell? ⟨G, i * 9 + 1, none⟩ = some (.int .u64 x.r.s.p)) ∧ (w'.cell? ⟨G, i * 9 + 2, none⟩ = some (.int .u32 x.r.s.l)) ∧ (w'.cell? ⟨G, i * 9 + 3, none⟩ = some (.int .u8 x.r.s.n)) ∧ (w'.cell? ⟨G, i * 9 + 4, none⟩ = some (.int .u8 x.r.kind)) ∧ (w'.cell? ⟨G, i * 9 + 5, none⟩ = some (.int .u32 x.r.flags)) ∧ (w'.cell? ⟨G, i * 9 + 6, none⟩ = some (.int .u64 x.r.exp)) ∧ (w'.cell? ⟨G, i * 9 + 7, none⟩ = some (.string x.r.body)) ∧ (w'.cell? ⟨G, i * 9 + 8, none⟩ = some (.int .u64 (ackI x.has 64))))) (by kernel_rfl) (by assumption) (fun hHeld => ?_)
        generalize w2.drew = wd at *
        refine wpAnyH_take (i := 0) (v := .bool true) rfl (by kernel_rfl) (by kernel_rfl) (by kernel_rfl) (fun _ _ _ h => h) (Or.inl ⟨by rfl, fun w hSw => by (try dsimp only at hSw); go_simp⟩) (by assumption) ?_
        try simp only [List.getElem_toArray, List.getElem_cons_zero, List.getElem_cons_succ, Act.put, List.setIfInBounds_toArray, List.set_cons_zero, List.set_cons_succ]
        refine wpAnyH_take (i := 1) (v := .bool false) rfl (by kernel_rfl) (by kernel_rfl) (by kernel_rfl) (fun _ _ _ h => h) (Or.inl ⟨by rfl, fun w hSw => by (try dsimp only at hSw); go_simp⟩) (by assumption) ?_
        try simp only [List.getElem_toArray, List.getElem_cons_zero, List.getElem_cons_succ, Act.put, List.setIfInBounds_toArray, List.set_cons_zero, List.set_cons_succ]
        refine wpAnyH_take (i := 2) (v := .bool false) rfl (by kernel_rfl) (by kernel_rfl) (by kernel_rfl) (fun _ _ _ h => h) (Or.inl ⟨by rfl, fun w hSw => by (try dsimp only at hSw); go_simp⟩) (by assumption) ?_
        try simp only [List.getElem_toArray, List.getElem_cons_zero, List.getElem_cons_succ, Act.put, List.setIfInBounds_toArray, List.set_cons_zero, List.set_cons_succ]
        refine wpAnyH_take (i := 3) (v := .pointer (some ⟨X, 0, none⟩)) rfl (by kernel_rfl) (by kernel_rfl) (by kernel_rfl) (fun _ _ _ h => h) (Or.inl ⟨by rfl, fun w hSw => by (try dsimp only at hSw); go_simp⟩) (by assumption) ?_
        try simp only [List.getElem_toArray, List.getElem_cons_zero, List.getElem_cons_succ, Act.put, List.setIfInBounds_toArray, List.set_cons_zero, List.set_cons_succ]
        refine wpAnyH_take (i := 4) (v := .pointer (some ⟨X, 0, none⟩)) rfl (by kernel_rfl) (by kernel_rfl) (by kernel_rfl) (fun _ _ _ h => h) (Or.inl ⟨by rfl, fun w hSw => by (try dsimp only at hSw); go_simp⟩) (by assumption) ?_
        try simp only [List.getElem_toArray, List.getElem_cons_zero, List.getElem_cons_succ, Act.put, List.setIfInBounds_toArray, List.set_cons_zero, List.set_cons_succ]
        refine wpAnyH_take (i := 5) (v := .pointer (some ⟨X, 1, none⟩)) rfl (by kernel_rfl) (by kernel_rfl) (by kernel_rfl) (fun _ _ _ h => h) (Or.inl ⟨by rfl, fun w hSw => by (try dsimp only at hSw); go_simp⟩) (by assumption) ?_
        try simp only [List.getElem_toArray, List.getElem_cons_zero, List.getElem_cons_succ, Act.put, List.setIfInBounds_toArray, List.set_cons_zero, List.set_cons_succ]
        refine wpAnyH_take (i := 6) (v := .slice (some ⟨G, 0, none⟩) m cap) rfl (by kernel_rfl) (by kernel_rfl) (by kernel_rfl) (fun _ _ _ h => h) (Or.inl ⟨by rfl, fun w hSw => by (try dsimp only at hSw); go_simp⟩) (by assumption) ?_
        try simp only [List.getElem_toArray, List.getElem_cons_zero, List.getElem_cons_succ, Act.put, List.setIfInBounds_toArray, List.set_cons_zero, List.set_cons_succ]
        refine wpAnyH_take (i := 7) (v := .int .i64 (i : Int)) rfl (by kernel_rfl) (by kernel_rfl) (by kernel_rfl) (fun _ _ _ h => h) (Or.inl ⟨by rfl, fun w hSw => by (try dsimp only at hSw); go_simp⟩) (by assumption) ?_
        try simp only [List.getElem_toArray, List.getElem_cons_zero, List.getElem_cons_succ, Act.put, List.setIfInBounds_toArray, List.set_cons_zero, List.set_cons_succ]
        refine wpAnyH_take (i := 8) (v := .pointer (some ⟨G, i * 9, none⟩)) rfl (by kernel_rfl) (by kernel_rfl) (by kernel_rfl) (fun _ _ _ h => h) (Or.inl ⟨by rfl, fun w hSw => by (try dsimp only at hSw); go_simp⟩) (by assumption) ?_
        try simp only [List.getElem_toArray, List.getElem_cons_zero, List.getElem_cons_succ, Act.put, List.setIfInBounds_toArray, List.set_cons_zero, List.set_cons_succ]
        refine wpAnyH_take (i := 9) (v := .pointer (some ⟨G, i * 9, none⟩)) rfl (by kernel_rfl) (by kernel_rfl) (by kernel_rfl) (fun _ _ _ h => h) (Or.inl ⟨by rfl, fun w hSw => by (try dsimp only at hSw); go_simp⟩) (by assumption) ?_
        try simp only [List.getElem_toArray, List.getElem_cons_zero, List.getElem_cons_succ, Act.put, List.setIfInBounds_toArray, List.set_cons_zero, List.set_cons_succ]
        refine wpAnyH_take (i := 10) (v := .pointer (some ⟨G, i * 9 + 1, none⟩)) rfl (by kernel_rfl) (by kernel_rfl) (by kernel_rfl) (fun _ _ _ h => h) (Or.inl ⟨by rfl, fun w hSw => by (try dsimp only at hSw); go_simp⟩) (by assumption) ?_
        try simp only [List.getElem_toArray, List.getElem_cons_zero, List.getElem_cons_succ, Act.put, List.setIfInBounds_toArray, List.set_cons_zero, List.set_cons_succ]
        refine wpAnyH_take (i := 11) (v := .agg #[.int .u64 x.r.s.p, .int .u32 x.r.s.l, .int .u8 x.r.s.n]) rfl (by kernel_rfl) (by kernel_rfl) (by kernel_rfl) (fun _ _ _ h => h) (Or.inl ⟨by rfl, fun w hSw => by (try dsimp only at hSw); go_simp⟩) (by assumption) ?_
        try simp only [List.getElem_toArray, List.getElem_cons_zero, List.getElem_cons_succ, Act.put, List.setIfInBounds_toArray, List.set_cons_zero, List.set_cons_succ]
        refine wpAnyH_take (i := 12) (v := .agg #[.int .u64 s.p, .int .u32 s.l, .int .u8 s.n]) rfl (by kernel_rfl) (by kernel_rfl) (by kernel_rfl) (fun _ _ _ h => h) (Or.inl ⟨by rfl, fun w hSw => by (try dsimp only at hSw); go_simp⟩) (by assumption) ?_
        try simp only [List.getElem_toArray, List.getElem_cons_zero, List.getElem_cons_succ, Act.put, List.setIfInBounds_toArray, List.set_cons_zero, List.set_cons_succ]
        refine wpAnyH_ready (rs := [13]) (by kernel_rfl) (by simp) ?_
        refine AllReadyH.cons (i := 13) rfl (fun K hK => ?_) AllReadyH.nil
        go_simp
        refine (HCm.out wd).mono ?_
        rintro e w5 ⟨rfl, k5⟩
        have HK5 := hid (kept_trans HKd.out k5)
        have hS := HS.out w5 HK5.out
        clear k5
        clear hHeld
        show K _ _
        refine hK.out _ _ (by assumption) (fun hHeld => ?_)
        clear hK K
        try simp only [List.getElem_toArray, List.getElem_cons_zero, List.getElem_cons_succ, Act.put, List.setIfInBounds_toArray, List.set_cons_zero, List.set_cons_succ]
        refine wpAnyH_take (i := 14) (v := .bool false) rfl (by kernel_rfl) (by kernel_rfl) (by kernel_rfl) (fun _ _ _ h => h) (Or.inl ⟨by rfl, fun w hSw => by (try dsimp only at hSw); go_simp⟩) (by assumption) ?_
        try simp only [List.getElem_toArray, List.getElem_cons_zero, List.getElem_cons_succ, Act.put, List.setIfInBounds_toArray, List.set_cons_zero, List.set_cons_succ]
        refine wpAnyH_take (i := 15) (v := .bool false) rfl (by kernel_rfl) (by kernel_rfl) (by kernel_rfl) (fun _ _ _ h => h) (Or.inl ⟨by rfl, fun w hSw => by (try dsimp only at hSw); go_simp⟩) (by assumption) ?_
        try simp only [List.getElem_toArray, List.getElem_cons_zero, List.getElem_cons_succ, Act.put, List.setIfInBounds_toArray, List.set_cons_zero, List.set_cons_succ]
        refine wpAnyH_take (i := 16) (v := .bool false) rfl (by kernel_rfl) (by kernel_rfl) (by kernel_rfl) (fun _ _ _ h => h) (Or.inl ⟨by rfl, fun w hSw => by (try dsimp only at hSw); go_simp⟩) (by assumption) ?_
        try simp only [List.getElem_toArray, List.getElem_cons_zero, List.getElem_cons_succ, Act.put, List.setIfInBounds_toArray, List.set_cons_zero, List.set_cons_succ]
        refine wpAnyH_take (i := 17) (v := .pointer (some ⟨X, 0, none⟩)) rfl (by kernel_rfl) (by kernel_rfl) (by kernel_rfl) (fun _ _ _ h => h) (Or.inl ⟨by rfl, fun w hSw => by (try dsimp only at hSw); go_simp⟩) (by assumption) ?_
        try simp only [List.getElem_toArray, List.getElem_cons_zero, List.getElem_cons_succ, Act.put, List.setIfInBounds_toArray, List.set_cons_zero, List.set_cons_succ]
        refine wpAnyH_take (i := 18) (v := .pointer (some ⟨X, 0, none⟩)) rfl (by kernel_rfl) (by kernel_rfl) (by kernel_rfl) (fun _ _ _ h => h) (Or.inl ⟨by rfl, fun w hSw => by (try dsimp only at hSw); go_simp⟩) (by assumption) ?_
        try simp only [List.getElem_toArray, List.getElem_cons_zero, List.getElem_cons_succ, Act.put, List.setIfInBounds_toArray, List.set_cons_zero, List.set_cons_succ]
        refine wpAnyH_take (i := 19) (v := .pointer (some ⟨X, 1, none⟩)) rfl (by kernel_rfl) (by kernel_rfl) (by kernel_rfl) (fun _ _ _ h => h) (Or.inl ⟨by rfl, fun w hSw => by (try dsimp only at hSw); go_simp⟩) (by assumption) ?_
        try simp only [List.getElem_toArray, List.getElem_cons_zero, List.getElem_cons_succ, Act.put, List.setIfInBounds_toArray, List.set_cons_zero, List.set_cons_succ]
        refine wpAnyH_take (i := 20) (v := .slice (some ⟨G, 0, none⟩) m cap) rfl (by kernel_rfl) (by kernel_rfl) (by kernel_rfl) (fun _ _ _ h => h) (Or.inl ⟨by rfl, fun w hSw => by (try dsimp only at hSw); go_simp⟩) (by assumption) ?_
        try simp only [List.getElem_toArray, List.getElem_cons_zero, List.getElem_cons_succ, Act.put, List.setIfInBounds_toArray, List.set_cons_zero, List.set_cons_succ]
        refine wpAnyH_take (i := 21) (v := .int .i64 (i : Int)) rfl (by kernel_rfl) (by kernel_rfl) (by kernel_rfl) (fun _ _ _ h => h) (Or.inl ⟨by rfl, fun w hSw => by (try dsimp only at hSw); go_simp⟩) (by assumption) ?_
        try simp only [List.getElem_toArray, List.getElem_cons_zero, List.getElem_cons_succ, Act.put, List.setIfInBounds_toArray, List.set_cons_zero, List.set_cons_succ]
        refine wpAnyH_take (i := 22) (v := .pointer (some ⟨G, i * 9, none⟩)) rfl (by kernel_rfl) (by kernel_rfl) (by kernel_rfl) (fun _ _ _ h => h) (Or.inl ⟨by rfl, fun w hSw => by (try dsimp only at hSw); go_simp⟩) (by assumption) ?_
        try simp only [List.getElem_toArray, List.getElem_cons_zero, List.getElem_cons_succ, Act.put, List.setIfInBounds_toArray, List.set_cons_zero, List.set_cons_succ]
        refine wpAnyH_take (i := 23) (v := .agg #[.string x.r.key, .int .u64 x.r.s.p, .int .u32 x.r.s.l, .int .u8 x.r.s.n, .int .u8 x.r.kind, .int .u32 x.r.flags, .int .u64 x.r.exp, .string x.r.body, .int .u64 (ackI x.has 64)]) rfl (by kernel_rfl) (by kernel_rfl) (by kernel_rfl) (fun _ _ _ h => h) (Or.inl ⟨by rfl, fun w hSw => by (try dsimp only at hSw); go_simp⟩) (by assumption) ?_
        try simp only [List.getElem_toArray, List.getElem_cons_zero, List.getElem_cons_succ, Act.put, List.setIfInBounds_toArray, List.set_cons_zero, List.set_cons_succ]
        refine wpAnyH_take (i := 24) (v := .int .u8 (k : Int)) rfl (by kernel_rfl) (by kernel_rfl) (by kernel_rfl) (fun _ _ _ h => h) (Or.inl ⟨by rfl, fun w hSw => by (try dsimp only at hSw); go_simp⟩) (by assumption) ?_
        try simp only [List.getElem_toArray, List.getElem_cons_zero, List.getElem_cons_succ, Act.put, List.setIfInBounds_toArray, List.set_cons_zero, List.set_cons_succ]
        refine wpAnyH_ready (rs := [25]) (by kernel_rfl) (by simp) ?_
        refine AllReadyH.cons (i := 25) rfl (fun K hK => ?_) AllReadyH.nil
        go_simp
        refine (HHs.out w5).mono ?_
        rintro e w6 ⟨rfl, k6⟩
        have HK6 := hid (kept_trans HK5.out k6)
        have hS := HS.out w6 HK6.out
        clear k6
        clear hHeld
        show K _ _
        refine hK.out _ _ (by assumption) (fun hHeld => ?_)
        clear hK K
        try simp only [List.getElem_toArray, List.getElem_cons_zero, List.getElem_cons_succ, Act.put, List.setIfInBounds_toArray, List.set_cons_zero, List.set_cons_succ]
        refine wpAnyH_take (i := 26) (v := .bool true) rfl (by kernel_rfl) (by kernel_rfl) (by kernel_rfl) (fun _ _ _ h => h) (Or.inl ⟨by rfl, fun w hSw => by (try dsimp only at hSw); go_simp⟩) (by assumption) ?_
        try simp only [List.getElem_toArray, List.getElem_cons_zero, List.getElem_cons_succ, Act.put, List.setIfInBounds_toArray, List.set_cons_zero, List.set_cons_succ]
        refine wpAnyH_done (by kernel_rfl) ?_ _
        refine NoPanic.normal ?_
        clear hSd hS0 hS hHeld
        go_wp2_with fail
        go_ret
        rw [ackL_no HM2.out, HM2.out]
        exact ack_same HH.out (kept_trans HK2.out HK6.out)
      | false =>
        rw [hb] at HHs
        have HM2 : Hid (mayK l key s (k : Int) = true) := hid (by rw [HM.out, hlt, hb]; rfl)
        clear hlt hb
        go_wp2_with fail
        refine wp_region_noPanic ?_
        refine wp_region_held_drew (S := (fun w' => (w'.cell? ⟨X, 1, none⟩ = some (.slice (some ⟨G, 0, none⟩) m cap)) ∧ (w'.cell? ⟨Z, 0, none⟩ = some (.int .u64 s.p)) ∧ (w'.cell? ⟨Z, 1, none⟩ = some (.int .u32 s.l)) ∧ (w'.cell? ⟨Z, 2, none⟩ = some (.int .u8 s.n)) ∧ (w'.cell? ⟨G, i * 9, none⟩ = some (.string x.r.key)) ∧ (w'.cell? ⟨G, i * 9 + 1, none⟩ = some (.int .u64 x.r.s.p)) ∧ (w'.cell? ⟨G, i * 9 + 2, none⟩ = some (.int .u32 x.r.s.l)) ∧ (w'.cell? ⟨G, i * 9 + 3, none⟩ = some (.int .u8 x.r.s.n)) ∧ (w'.cell? ⟨G, i * 9 + 4, none⟩ = some (.int .u8 x.r.kind)) ∧ (w'.cell? ⟨G, i * 9 + 5, none⟩ = some (.int .u32 x.r.flags)) ∧ (w'.cell? ⟨G, i * 9 + 6, none⟩ = some (.int .u64 x.r.exp)) ∧ (w'.cell? ⟨G, i * 9 + 7, none⟩ = some (.string x.r.body)) ∧ (w'.cell? ⟨G, i * 9 + 8, none⟩ = some (.int .u64 (ackI x.has 64))))) (by kernel_rfl) (by assumption) (fun hHeld => ?_)
        generalize w2.drew = wd at *
        refine wpAnyH_take (i := 0) (v := .bool true) rfl (by kernel_rfl) (by kernel_rfl) (by kernel_rfl) (fun _ _ _ h => h) (Or.inl ⟨by rfl, fun w hSw => by (try dsimp only at hSw); go_simp⟩) (by assumption) ?_
        try simp only [List.getElem_toArray, List.getElem_cons_zero, List.getElem_cons_succ, Act.put, List.setIfInBounds_toArray, List.set_cons_zero, List.set_cons_succ]
        refine wpAnyH_take (i := 1) (v := .bool false) rfl (by kernel_rfl) (by kernel_rfl) (by kernel_rfl) (fun _ _ _ h => h) (Or.inl ⟨by rfl, fun w hSw => by (try dsimp only at hSw); go_simp⟩) (by assumption) ?_
        try simp only [List.getElem_toArray, List.getElem_cons_zero, List.getElem_cons_succ, Act.put, List.setIfInBounds_toArray, List.set_cons_zero, List.set_cons_succ]
        refine wpAnyH_take (i := 2) (v := .bool false) rfl (by kernel_rfl) (by kernel_rfl) (by kernel_rfl) (fun _ _ _ h => h) (Or.inl ⟨by rfl, fun w hSw => by (try dsimp only at hSw); go_simp⟩) (by assumption) ?_
        try simp only [List.getElem_toArray, List.getElem_cons_zero, List.getElem_cons_succ, Act.put, List.setIfInBounds_toArray, List.set_cons_zero, List.set_cons_succ]
        refine wpAnyH_take (i := 3) (v := .pointer (some ⟨X, 0, none⟩)) rfl (by kernel_rfl) (by kernel_rfl) (by kernel_rfl) (fun _ _ _ h => h) (Or.inl ⟨by rfl, fun w hSw => by (try dsimp only at hSw); go_simp⟩) (by assumption) ?_
        try simp only [List.getElem_toArray, List.getElem_cons_zero, List.getElem_cons_succ, Act.put, List.setIfInBounds_toArray, List.set_cons_zero, List.set_cons_succ]
        refine wpAnyH_take (i := 4) (v := .pointer (some ⟨X, 0, none⟩)) rfl (by kernel_rfl) (by kernel_rfl) (by kernel_rfl) (fun _ _ _ h => h) (Or.inl ⟨by rfl, fun w hSw => by (try dsimp only at hSw); go_simp⟩) (by assumption) ?_
        try simp only [List.getElem_toArray, List.getElem_cons_zero, List.getElem_cons_succ, Act.put, List.setIfInBounds_toArray, List.set_cons_zero, List.set_cons_succ]
        refine wpAnyH_take (i := 5) (v := .pointer (some ⟨X, 1, none⟩)) rfl (by kernel_rfl) (by kernel_rfl) (by kernel_rfl) (fun _ _ _ h => h) (Or.inl ⟨by rfl, fun w hSw => by (try dsimp only at hSw); go_simp⟩) (by assumption) ?_
        try simp only [List.getElem_toArray, List.getElem_cons_zero, List.getElem_cons_succ, Act.put, List.setIfInBounds_toArray, List.set_cons_zero, List.set_cons_succ]
        refine wpAnyH_take (i := 6) (v := .slice (some ⟨G, 0, none⟩) m cap) rfl (by kernel_rfl) (by kernel_rfl) (by kernel_rfl) (fun _ _ _ h => h) (Or.inl ⟨by rfl, fun w hSw => by (try dsimp only at hSw); go_simp⟩) (by assumption) ?_
        try simp only [List.getElem_toArray, List.getElem_cons_zero, List.getElem_cons_succ, Act.put, List.setIfInBounds_toArray, List.set_cons_zero, List.set_cons_succ]
        refine wpAnyH_take (i := 7) (v := .int .i64 (i : Int)) rfl (by kernel_rfl) (by kernel_rfl) (by kernel_rfl) (fun _ _ _ h => h) (Or.inl ⟨by rfl, fun w hSw => by (try dsimp only at hSw); go_simp⟩) (by assumption) ?_
        try simp only [List.getElem_toArray, List.getElem_cons_zero, List.getElem_cons_succ, Act.put, List.setIfInBounds_toArray, List.set_cons_zero, List.set_cons_succ]
        refine wpAnyH_take (i := 8) (v := .pointer (some ⟨G, i * 9, none⟩)) rfl (by kernel_rfl) (by kernel_rfl) (by kernel_rfl) (fun _ _ _ h => h) (Or.inl ⟨by rfl, fun w hSw => by (try dsimp only at hSw); go_simp⟩) (by assumption) ?_
        try simp only [List.getElem_toArray, List.getElem_cons_zero, List.getElem_cons_succ, Act.put, List.setIfInBounds_toArray, List.set_cons_zero, List.set_cons_succ]
        refine wpAnyH_take (i := 9) (v := .pointer (some ⟨G, i * 9, none⟩)) rfl (by kernel_rfl) (by kernel_rfl) (by kernel_rfl) (fun _ _ _ h => h) (Or.inl ⟨by rfl, fun w hSw => by (try dsimp only at hSw); go_simp⟩) (by assumption) ?_
        try simp only [List.getElem_toArray, List.getElem_cons_zero, List.getElem_cons_succ, Act.put, List.setIfInBounds_toArray, List.set_cons_zero, List.set_cons_succ]
        refine wpAnyH_take (i := 10) (v := .pointer (some ⟨G, i * 9 + 1, none⟩)) rfl (by kernel_rfl) (by kernel_rfl) (by kernel_rfl) (fun _ _ _ h => h) (Or.inl ⟨by rfl, fun w hSw => by (try dsimp only at hSw); go_simp⟩) (by assumption) ?_
        try simp only [List.getElem_toArray, List.getElem_cons_zero, List.getElem_cons_succ, Act.put, List.setIfInBounds_toArray, List.set_cons_zero, List.set_cons_succ]
        refine wpAnyH_take (i := 11) (v := .agg #[.int .u64 x.r.s.p, .int .u32 x.r.s.l, .int .u8 x.r.s.n]) rfl (by kernel_rfl) (by kernel_rfl) (by kernel_rfl) (fun _ _ _ h => h) (Or.inl ⟨by rfl, fun w hSw => by (try dsimp only at hSw); go_simp⟩) (by assumption) ?_
        try simp only [List.getElem_toArray, List.getElem_cons_zero, List.getElem_cons_succ, Act.put, List.setIfInBounds_toArray, List.set_cons_zero, List.set_cons_succ]
        refine wpAnyH_take (i := 12) (v := .agg #[.int .u64 s.p, .int .u32 s.l, .int .u8 s.n]) rfl (by kernel_rfl) (by kernel_rfl) (by kernel_rfl) (fun _ _ _ h => h) (Or.inl ⟨by rfl, fun w hSw => by (try dsimp only at hSw); go_simp⟩) (by assumption) ?_
        try simp only [List.getElem_toArray, List.getElem_cons_zero, List.getElem_cons_succ, Act.put, List.setIfInBounds_toArray, List.set_cons_zero, List.set_cons_succ]
        refine wpAnyH_ready (rs := [13]) (by kernel_rfl) (by simp) ?_
        refine AllReadyH.cons (i := 13) rfl (fun K hK => ?_) AllReadyH.nil
        go_simp
        refine (HCm.out wd).mono ?_
        rintro e w5 ⟨rfl, k5⟩
        have HK5 := hid (kept_trans HKd.out k5)
        have hS := HS.out w5 HK5.out
        clear k5
        clear hHeld
        show K _ _
        refine hK.out _ _ (by assumption) (fun hHeld => ?_)
        clear hK K
        try simp only [List.getElem_toArray, List.getElem_cons_zero, List.getElem_cons_succ, Act.put, List.setIfInBounds_toArray, List.set_cons_zero, List.set_cons_succ]
        refine wpAnyH_take (i := 14) (v := .bool false) rfl (by kernel_rfl) (by kernel_rfl) (by kernel_rfl) (fun _ _ _ h => h) (Or.inl ⟨by rfl, fun w hSw => by (try dsimp only at hSw); go_simp⟩) (by assumption) ?_
        try simp only [List.getElem_toArray, List.getElem_cons_zero, List.getElem_cons_succ, Act.put, List.setIfInBounds_toArray, List.set_cons_zero, List.set_cons_succ]
        refine wpAnyH_take (i := 15) (v := .bool false) rfl (by kernel_rfl) (by kernel_rfl) (by kernel_rfl) (fun _ _ _ h => h) (Or.inl ⟨by rfl, fun w hSw => by (try dsimp only at hSw); go_simp⟩) (by assumption) ?_
        try simp only [List.getElem_toArray, List.getElem_cons_zero, List.getElem_cons_succ, Act.put, List.setIfInBounds_toArray, List.set_cons_zero, List.set_cons_succ]
        refine wpAnyH_take (i := 16) (v := .bool false) rfl (by kernel_rfl) (by kernel_rfl) (by kernel_rfl) (fun _ _ _ h => h) (Or.inl ⟨by rfl, fun w hSw => by (try dsimp only at hSw); go_simp⟩) (by assumption) ?_
        try simp only [List.getElem_toArray, List.getElem_cons_zero, List.getElem_cons_succ, Act.put, List.setIfInBounds_toArray, List.set_cons_zero, List.set_cons_succ]
        refine wpAnyH_take (i := 17) (v := .pointer (some ⟨X, 0, none⟩)) rfl (by kernel_rfl) (by kernel_rfl) (by kernel_rfl) (fun _ _ _ h => h) (Or.inl ⟨by rfl, fun w hSw => by (try dsimp only at hSw); go_simp⟩) (by assumption) ?_
        try simp only [List.getElem_toArray, List.getElem_cons_zero, List.getElem_cons_succ, Act.put, List.setIfInBounds_toArray, List.set_cons_zero, List.set_cons_succ]
        refine wpAnyH_take (i := 18) (v := .pointer (some ⟨X, 0, none⟩)) rfl (by kernel_rfl) (by kernel_rfl) (by kernel_rfl) (fun _ _ _ h => h) (Or.inl ⟨by rfl, fun w hSw => by (try dsimp only at hSw); go_simp⟩) (by assumption) ?_
        try simp only [List.getElem_toArray, List.getElem_cons_zero, List.getElem_cons_succ, Act.put, List.setIfInBounds_toArray, List.set_cons_zero, List.set_cons_succ]
        refine wpAnyH_take (i := 19) (v := .pointer (some ⟨X, 1, none⟩)) rfl (by kernel_rfl) (by kernel_rfl) (by kernel_rfl) (fun _ _ _ h => h) (Or.inl ⟨by rfl, fun w hSw => by (try dsimp only at hSw); go_simp⟩) (by assumption) ?_
        try simp only [List.getElem_toArray, List.getElem_cons_zero, List.getElem_cons_succ, Act.put, List.setIfInBounds_toArray, List.set_cons_zero, List.set_cons_succ]
        refine wpAnyH_take (i := 20) (v := .slice (some ⟨G, 0, none⟩) m cap) rfl (by kernel_rfl) (by kernel_rfl) (by kernel_rfl) (fun _ _ _ h => h) (Or.inl ⟨by rfl, fun w hSw => by (try dsimp only at hSw); go_simp⟩) (by assumption) ?_
        try simp only [List.getElem_toArray, List.getElem_cons_zero, List.getElem_cons_succ, Act.put, List.setIfInBounds_toArray, List.set_cons_zero, List.set_cons_succ]
        refine wpAnyH_take (i := 21) (v := .int .i64 (i : Int)) rfl (by kernel_rfl) (by kernel_rfl) (by kernel_rfl) (fun _ _ _ h => h) (Or.inl ⟨by rfl, fun w hSw => by (try dsimp only at hSw); go_simp⟩) (by assumption) ?_
        try simp only [List.getElem_toArray, List.getElem_cons_zero, List.getElem_cons_succ, Act.put, List.setIfInBounds_toArray, List.set_cons_zero, List.set_cons_succ]
        refine wpAnyH_take (i := 22) (v := .pointer (some ⟨G, i * 9, none⟩)) rfl (by kernel_rfl) (by kernel_rfl) (by kernel_rfl) (fun _ _ _ h => h) (Or.inl ⟨by rfl, fun w hSw => by (try dsimp only at hSw); go_simp⟩) (by assumption) ?_
        try simp only [List.getElem_toArray, List.getElem_cons_zero, List.getElem_cons_succ, Act.put, List.setIfInBounds_toArray, List.set_cons_zero, List.set_cons_succ]
        refine wpAnyH_take (i := 23) (v := .agg #[.string x.r.key, .int .u64 x.r.s.p, .int .u32 x.r.s.l, .int .u8 x.r.s.n, .int .u8 x.r.kind, .int .u32 x.r.flags, .int .u64 x.r.exp, .string x.r.body, .int .u64 (ackI x.has 64)]) rfl (by kernel_rfl) (by kernel_rfl) (by kernel_rfl) (fun _ _ _ h => h) (Or.inl ⟨by rfl, fun w hSw => by (try dsimp only at hSw); go_simp⟩) (by assumption) ?_
        try simp only [List.getElem_toArray, List.getElem_cons_zero, List.getElem_cons_succ, Act.put, List.setIfInBounds_toArray, List.set_cons_zero, List.set_cons_succ]
        refine wpAnyH_take (i := 24) (v := .int .u8 (k : Int)) rfl (by kernel_rfl) (by kernel_rfl) (by kernel_rfl) (fun _ _ _ h => h) (Or.inl ⟨by rfl, fun w hSw => by (try dsimp only at hSw); go_simp⟩) (by assumption) ?_
        try simp only [List.getElem_toArray, List.getElem_cons_zero, List.getElem_cons_succ, Act.put, List.setIfInBounds_toArray, List.set_cons_zero, List.set_cons_succ]
        refine wpAnyH_ready (rs := [25]) (by kernel_rfl) (by simp) ?_
        refine AllReadyH.cons (i := 25) rfl (fun K hK => ?_) AllReadyH.nil
        go_simp
        refine (HHs.out w5).mono ?_
        rintro e w6 ⟨rfl, k6⟩
        have HK6 := hid (kept_trans HK5.out k6)
        have hS := HS.out w6 HK6.out
        clear k6
        clear hHeld
        show K _ _
        refine hK.out _ _ (by assumption) (fun hHeld => ?_)
        clear hK K
        try simp only [List.getElem_toArray, List.getElem_cons_zero, List.getElem_cons_succ, Act.put, List.setIfInBounds_toArray, List.set_cons_zero, List.set_cons_succ]
        refine wpAnyH_take (i := 26) (v := .bool false) rfl (by kernel_rfl) (by kernel_rfl) (by kernel_rfl) (fun _ _ _ h => h) (Or.inl ⟨by rfl, fun w hSw => by (try dsimp only at hSw); go_simp⟩) (by assumption) ?_
        try simp only [List.getElem_toArray, List.getElem_cons_zero, List.getElem_cons_succ, Act.put, List.setIfInBounds_toArray, List.set_cons_zero, List.set_cons_succ]
        refine wpAnyH_done (by kernel_rfl) ?_ _
        refine NoPanic.normal ?_
        have HKw := hid (kept_drew (kept_trans HK2.out HK6.out))
        have hXd := at_kept HX.out HKw.out
        have hOd := og_stays HOr.out HKw.out
        have hP9 := og_put (i := i) (j := 8) (x' := ⟨x.r, more x.has k⟩) (u := .int .u64 (ackI (more x.has k) 64)) encH_ok hOd HXi.out (by decide) rfl
        have hE1 : HO (w6.drew.setCell ⟨G, i * 9 + 8, none⟩ (.int .u64 (ackI (more x.has k) 64))) X ⟨n, l.set i ⟨x.r, more x.has k⟩⟩ F := ⟨_, at_other hXd HXG.out _ _, hP9, HF.out⟩
        have hE2 : Sd F w F (w6.drew.setCell ⟨G, i * 9 + 8, none⟩ (.int .u64 (ackI (more x.has k) 64))) := ⟨tn_comp (tn_kept HKw.out) (tn_set _ G _ _) (fun b hb => .inl ((HF.out b).2 (.inr (by rw [hb]; rfl)))), fun b hb => .inl hb⟩
        have HEnd := hid (And.intro hE1 hE2)
        have c1 : w6.drew.cell? ⟨X, 1, none⟩ = some (.slice (some ⟨G, 0, none⟩) m cap) := at_cell hXd 1
        have c8 := (rg_H (rg_own encH_ok hOd) HXi.out).2.2.2.2.2.2.2.2
        simp only [Nat.zero_add] at c8
        have cf := og_frozen hOd (i * 9 + 8)
        have hX9 : (w6.drew.setCell ⟨G, i * 9 + 8, none⟩ (.int .u64 (ackI (more x.has k) 64))).cell? ⟨X, 1, none⟩ = some (.slice (some ⟨G, 0, none⟩) m cap) := at_cell (at_other hXd HXG.out _ _) 1
        clear hSd hS0 hS hHeld hXd hOd hP9 hE1 hE2 hcv hcz
        go_wp2_with fail
        refine wp_region_noPanic ?_
        refine wp_region_held_drew (S := (fun w' => (w'.cell? ⟨X, 1, none⟩ = some (.slice (some ⟨G, 0, none⟩) m cap)))) (by kernel_rfl) (by assumption) (fun hHeld => ?_)
        generalize hwd : w6.drew = wd at *
        refine wpAnyH_take (i := 0) (v := .pointer (some ⟨X, 0, none⟩)) rfl (by kernel_rfl) (by kernel_rfl) (by kernel_rfl) (fun _ _ _ h => h) (Or.inl ⟨by rfl, fun w hSw => by (try dsimp only at hSw); go_simp⟩) (by assumption) ?_
        try simp only [List.getElem_toArray, List.getElem_cons_zero, List.getElem_cons_succ, Act.put, List.setIfInBounds_toArray, List.set_cons_zero, List.set_cons_succ]
        refine wpAnyH_take (i := 1) (v := .pointer (some ⟨X, 0, none⟩)) rfl (by kernel_rfl) (by kernel_rfl) (by kernel_rfl) (fun _ _ _ h => h) (Or.inl ⟨by rfl, fun w hSw => by (try dsimp only at hSw); go_simp⟩) (by assumption) ?_
        try simp only [List.getElem_toArray, List.getElem_cons_zero, List.getElem_cons_succ, Act.put, List.setIfInBounds_toArray, List.set_cons_zero, List.set_cons_succ]
        refine wpAnyH_take (i := 2) (v := .pointer (some ⟨X, 1, none⟩)) rfl (by kernel_rfl) (by kernel_rfl) (by kernel_rfl) (fun _ _ _ h => h) (Or.inl ⟨by rfl, fun w hSw => by (try dsimp only at hSw); go_simp⟩) (by assumption) ?_
        try simp only [List.getElem_toArray, List.getElem_cons_zero, List.getElem_cons_succ, Act.put, List.setIfInBounds_toArray, List.set_cons_zero, List.set_cons_succ]
        refine wpAnyH_take (i := 3) (v := .slice (some ⟨G, 0, none⟩) m cap) rfl (by kernel_rfl) (by kernel_rfl) (by kernel_rfl) (fun _ _ _ h => h) (Or.inl ⟨by rfl, fun w hSw => by (try dsimp only at hSw); go_simp⟩) (by assumption) ?_
        try simp only [List.getElem_toArray, List.getElem_cons_zero, List.getElem_cons_succ, Act.put, List.setIfInBounds_toArray, List.set_cons_zero, List.set_cons_succ]
        refine wpAnyH_take (i := 4) (v := .int .i64 (i : Int)) rfl (by kernel_rfl) (by kernel_rfl) (by kernel_rfl) (fun _ _ _ h => h) (Or.inl ⟨by rfl, fun w hSw => by (try dsimp only at hSw); go_simp⟩) (by assumption) ?_
        try simp only [List.getElem_toArray, List.getElem_cons_zero, List.getElem_cons_succ, Act.put, List.setIfInBounds_toArray, List.set_cons_zero, List.set_cons_succ]
        refine wpAnyH_take (i := 5) (v := .pointer (some ⟨G, i * 9, none⟩)) rfl (by kernel_rfl) (by kernel_rfl) (by kernel_rfl) (fun _ _ _ h => h) (Or.inl ⟨by rfl, fun w hSw => by (try dsimp only at hSw); go_simp⟩) (by assumption) ?_
        try simp only [List.getElem_toArray, List.getElem_cons_zero, List.getElem_cons_succ, Act.put, List.setIfInBounds_toArray, List.set_cons_zero, List.set_cons_succ]
        refine wpAnyH_take (i := 6) (v := .pointer (some ⟨G, i * 9 + 8, none⟩)) rfl (by kernel_rfl) (by kernel_rfl) (by kernel_rfl) (fun _ _ _ h => h) (Or.inl ⟨by rfl, fun w hSw => by (try dsimp only at hSw); go_simp⟩) (by assumption) ?_
        try simp only [List.getElem_toArray, List.getElem_cons_zero, List.getElem_cons_succ, Act.put, List.setIfInBounds_toArray, List.set_cons_zero, List.set_cons_succ]
        refine wpAnyH_take (i := 8) (v := .int .u8 (k : Int)) rfl (by kernel_rfl) (by kernel_rfl) (by kernel_rfl) (fun _ _ _ h => h) (Or.inl ⟨by rfl, fun w hSw => by (try dsimp only at hSw); go_simp⟩) (by assumption) ?_
        try simp only [List.getElem_toArray, List.getElem_cons_zero, List.getElem_cons_succ, Act.put, List.setIfInBounds_toArray, List.set_cons_zero, List.set_cons_succ]
        refine wpAnyH_ready (rs := [7, 9]) (by kernel_rfl) (by simp) ?_
        refine AllReadyH.cons (i := 7) rfl (fun K hK => ?_) ?_
        · go_simp
          clear hHeld
          show K _ _
          refine hK.out _ _ (by assumption) (fun hHeld => ?_)
          clear hK K
          try simp only [List.getElem_toArray, List.getElem_cons_zero, List.getElem_cons_succ, Act.put, List.setIfInBounds_toArray, List.set_cons_zero, List.set_cons_succ]
          refine wpAnyH_ready (rs := [9]) (by kernel_rfl) (by simp) ?_
          refine AllReadyH.cons (i := 9) rfl (fun K hK => ?_) AllReadyH.nil
          go_simp
          refine (HBt.out _).mono ?_
          rintro e w9 ⟨rfl, e9⟩
          subst e9
          clear hHeld
          show K _ _
          refine hK.out _ _ (by assumption) (fun hHeld => ?_)
          clear hK K
          try simp only [List.getElem_toArray, List.getElem_cons_zero, List.getElem_cons_succ, Act.put, List.setIfInBounds_toArray, List.set_cons_zero, List.set_cons_succ]
          refine wpAnyH_take (i := 10) (v := .int .u64 (ackI (more x.has k) 64)) rfl (by kernel_rfl) (by kernel_rfl) (by kernel_rfl) (fun _ _ _ h => h) (Or.inl ⟨by rfl, fun w hSw => by (try dsimp only at hSw); go_simp⟩) (by assumption) ?_
          try simp only [List.getElem_toArray, List.getElem_cons_zero, List.getElem_cons_succ, Act.put, List.setIfInBounds_toArray, List.set_cons_zero, List.set_cons_succ]
          refine wpAnyH_take (i := 11) (v := .pointer (some ⟨G, i * 9, none⟩)) rfl (by kernel_rfl) (by kernel_rfl) (by kernel_rfl) (fun _ _ _ h => h) (Or.inl ⟨by rfl, fun w hSw => by (try dsimp only at hSw); go_simp⟩) (by assumption) ?_
          try simp only [List.getElem_toArray, List.getElem_cons_zero, List.getElem_cons_succ, Act.put, List.setIfInBounds_toArray, List.set_cons_zero, List.set_cons_succ]
          refine wpAnyH_take (i := 12) (v := .pointer (some ⟨G, i * 9 + 8, none⟩)) rfl (by kernel_rfl) (by kernel_rfl) (by kernel_rfl) (fun _ _ _ h => h) (Or.inl ⟨by rfl, fun w hSw => by (try dsimp only at hSw); go_simp⟩) (by assumption) ?_
          try simp only [List.getElem_toArray, List.getElem_cons_zero, List.getElem_cons_succ, Act.put, List.setIfInBounds_toArray, List.set_cons_zero, List.set_cons_succ]
          refine wpAnyH_ready (rs := [13]) (by kernel_rfl) (by simp) ?_
          refine AllReadyH.cons (i := 13) rfl (fun K hK => ?_) AllReadyH.nil
          go_simp
          have hS := hX9
          clear hHeld
          show K _ _
          refine hK.out _ _ (by assumption) (fun hHeld => ?_)
          clear hK K
          try simp only [List.getElem_toArray, List.getElem_cons_zero, List.getElem_cons_succ, Act.put, List.setIfInBounds_toArray, List.set_cons_zero, List.set_cons_succ]
          refine wpAnyH_done (by kernel_rfl) ?_ _
          refine NoPanic.normal ?_
          clear hHeld hS
          go_wp2_with fail
          go_ret
          rw [HAk.out HM2.out, HM2.out]
          exact ⟨_, rfl, HEnd.out.1, HEnd.out.2⟩
        refine AllReadyH.cons (i := 9) rfl (fun K hK => ?_) AllReadyH.nil
        go_simp
        refine (HBt.out _).mono ?_
        rintro e w9 ⟨rfl, e9⟩
        subst e9
        clear hHeld
        show K _ _
        refine hK.out _ _ (by assumption) (fun hHeld => ?_)
        clear hK K
        try simp only [List.getElem_toArray, List.getElem_cons_zero, List.getElem_cons_succ, Act.put, List.setIfInBounds_toArray, List.set_cons_zero, List.set_cons_succ]
        refine wpAnyH_ready (rs := [7]) (by kernel_rfl) (by simp) ?_
        refine AllReadyH.cons (i := 7) rfl (fun K hK => ?_) AllReadyH.nil
        go_simp
        clear hHeld
        show K _ _
        refine hK.out _ _ (by assumption) (fun hHeld => ?_)
        clear hK K
        try simp only [List.getElem_toArray, List.getElem_cons_zero, List.getElem_cons_succ, Act.put, List.setIfInBounds_toArray, List.set_cons_zero, List.set_cons_succ]
        refine wpAnyH_take (i := 10) (v := .int .u64 (ackI (more x.has k) 64)) rfl (by kernel_rfl) (by kernel_rfl) (by kernel_rfl) (fun _ _ _ h => h) (Or.inl ⟨by rfl, fun w hSw => by (try dsimp only at hSw); go_simp⟩) (by assumption) ?_
        try simp only [List.getElem_toArray, List.getElem_cons_zero, List.getElem_cons_succ, Act.put, List.setIfInBounds_toArray, List.set_cons_zero, List.set_cons_succ]
        refine wpAnyH_take (i := 11) (v := .pointer (some ⟨G, i * 9, none⟩)) rfl (by kernel_rfl) (by kernel_rfl) (by kernel_rfl) (fun _ _ _ h => h) (Or.inl ⟨by rfl, fun w hSw => by (try dsimp only at hSw); go_simp⟩) (by assumption) ?_
        try simp only [List.getElem_toArray, List.getElem_cons_zero, List.getElem_cons_succ, Act.put, List.setIfInBounds_toArray, List.set_cons_zero, List.set_cons_succ]
        refine wpAnyH_take (i := 12) (v := .pointer (some ⟨G, i * 9 + 8, none⟩)) rfl (by kernel_rfl) (by kernel_rfl) (by kernel_rfl) (fun _ _ _ h => h) (Or.inl ⟨by rfl, fun w hSw => by (try dsimp only at hSw); go_simp⟩) (by assumption) ?_
        try simp only [List.getElem_toArray, List.getElem_cons_zero, List.getElem_cons_succ, Act.put, List.setIfInBounds_toArray, List.set_cons_zero, List.set_cons_succ]
        refine wpAnyH_ready (rs := [13]) (by kernel_rfl) (by simp) ?_
        refine AllReadyH.cons (i := 13) rfl (fun K hK => ?_) AllReadyH.nil
        go_simp
        have hS := hX9
        clear hHeld
        show K _ _
        refine hK.out _ _ (by assumption) (fun hHeld => ?_)
        clear hK K
        try simp only [List.getElem_toArray, List.getElem_cons_zero, List.getElem_cons_succ, Act.put, List.setIfInBounds_toArray, List.set_cons_zero, List.set_cons_succ]
        refine wpAnyH_done (by kernel_rfl) ?_ _
        refine NoPanic.normal ?_
        clear hHeld hS
        go_wp2_with fail
        go_ret
        rw [HAk.out HM2.out, HM2.out]
        exact ⟨_, rfl, HEnd.out.1, HEnd.out.2⟩
end Go.Proofs.Ytahgplfkgijecaa


namespace Go.Proofs.Ytahgplfkgijecaa
open Go.ChangeShapes Go.WideShapes Go.ChangeAt Go.RowKit
set_option linter.unusedVariables false
set_option linter.unusedSimpArgs false
set_option maxRecDepth 100000

def AddE (X : Nat) (s : Hs) (F : Nat → Prop) (b : Int) (l : List Ht) (w : World) (e : Ending) (w' : World) : Prop := ∃ F', e = .returned (.int .i64 b) ∧ HO w' X ⟨s.n, l⟩ F' ∧ Sd F w F' w'
theorem add_same {X : Nat} {s : Hs} {F : Nat → Prop} {w w' : World} {b : Int} (h : HO w X s F) (k : Kept w w') : AddE X s F b s.l w (.returned (.int .i64 b)) w' := ⟨F, rfl, ho_stay h (fun b hb => kept_block k (ho_lt h hb)), sd_kept k⟩
theorem add_says {X : Nat} {s : Hs} {F : Nat → Prop} {w w' : World} {b b' : Int} {l l' : List Ht} {e : Ending} (h : AddE X s F b l w e w') (hb : b = b') (hl : l = l') : AddE X s F b' l' w e w' := by rw [← hb, ← hl]; exact h
theorem oneH_new (w : World) (r : R) : OneH (w.alloc (.cells #[.string r.key, .int .u64 r.s.p, .int .u32 r.s.l, .int .u8 r.s.n, .int .u8 r.kind, .int .u32 r.flags, .int .u64 r.exp, .string r.body, .int .u64 0] 61)) w.heap.size ⟨r, nob⟩ := by
  unfold OneH
  simp only [ack_nob]
  exact at_new w _ 61
theorem og_setN {w : World} {B G n cap : Nat} {xs : List Ht} (h : Og encH 9 61 w B (.slice (some ⟨G, 0, none⟩) n cap) xs) {k : Nat} (hk : k < n) (r : R) : Og encH 9 61 (((((((((w.setCell ⟨G, k * 9, none⟩ (.string r.key)).setCell ⟨G, k * 9 + 1, none⟩ (.int .u64 r.s.p)).setCell ⟨G, k * 9 + 2, none⟩ (.int .u32 r.s.l)).setCell ⟨G, k * 9 + 3, none⟩ (.int .u8 r.s.n)).setCell ⟨G, k * 9 + 4, none⟩ (.int .u8 r.kind)).setCell ⟨G, k * 9 + 5, none⟩ (.int .u32 r.flags)).setCell ⟨G, k * 9 + 6, none⟩ (.int .u64 r.exp)).setCell ⟨G, k * 9 + 7, none⟩ (.string r.body)).setCell ⟨G, k * 9 + 8, none⟩ (.int .u64 0)) B (.slice (some ⟨G, 0, none⟩) n cap) (xs.set k ⟨r, nob⟩) := by
  have := og_setH h hk ⟨r, nob⟩
  simp only [ack_nob] at this
  exact this
theorem at_setN {w : World} {X T G o : Nat} {cs : Array Value} (h : At w X cs T) (hn : X ≠ G) (r : R) : At (((((((((w.setCell ⟨G, o, none⟩ (.string r.key)).setCell ⟨G, o + 1, none⟩ (.int .u64 r.s.p)).setCell ⟨G, o + 2, none⟩ (.int .u32 r.s.l)).setCell ⟨G, o + 3, none⟩ (.int .u8 r.s.n)).setCell ⟨G, o + 4, none⟩ (.int .u8 r.kind)).setCell ⟨G, o + 5, none⟩ (.int .u32 r.flags)).setCell ⟨G, o + 6, none⟩ (.int .u64 r.exp)).setCell ⟨G, o + 7, none⟩ (.string r.body)).setCell ⟨G, o + 8, none⟩ (.int .u64 0)) X cs T :=
  at_other (at_other (at_other (at_other (at_other (at_other (at_other (at_other (at_other h hn _ _) hn _ _) hn _ _) hn _ _) hn _ _) hn _ _) hn _ _) hn _ _) hn _ _
theorem turn_setN {G o : Nat} {u w : World} (h : Turn G u w) (r : R) : Turn G u (((((((((w.setCell ⟨G, o, none⟩ (.string r.key)).setCell ⟨G, o + 1, none⟩ (.int .u64 r.s.p)).setCell ⟨G, o + 2, none⟩ (.int .u32 r.s.l)).setCell ⟨G, o + 3, none⟩ (.int .u8 r.s.n)).setCell ⟨G, o + 4, none⟩ (.int .u8 r.kind)).setCell ⟨G, o + 5, none⟩ (.int .u32 r.flags)).setCell ⟨G, o + 6, none⟩ (.int .u64 r.exp)).setCell ⟨G, o + 7, none⟩ (.string r.body)).setCell ⟨G, o + 8, none⟩ (.int .u64 0)) :=
  turn_set (turn_set (turn_set (turn_set (turn_set (turn_set (turn_set (turn_set (turn_set h _ _) _ _) _ _) _ _) _ _) _ _) _ _) _ _) _ _
set_option maxHeartbeats 12800000 in
theorem add_is (X : Nat) (t : Hs) (F : Nat → Prop) (r : R) (w : World) (h : HO w X t F) (g : Hg t.n t.l) (hr : r.ok) (hsm : Sml r) : Calls Try.prog 12 #[.pointer (some ⟨X, 0, none⟩), .agg #[.string r.key, .int .u64 r.s.p, .int .u32 r.s.l, .int .u8 r.s.n, .int .u8 r.kind, .int .u32 r.flags, .int .u64 r.exp, .string r.body]] w (AddE X t F (addE t.n t.l r) (addL t.n t.l r) w) := by
  have HH := hid h
  have kz := kept_alloc (kept_refl w) (.cells #[.string r.key, .int .u64 r.s.p, .int .u32 r.s.l, .int .u8 r.s.n, .int .u8 r.kind, .int .u32 r.flags, .int .u64 r.exp, .string r.body] 35)
  have aZ := at_new w #[.string r.key, .int .u64 r.s.p, .int .u32 r.s.l, .int .u8 r.s.n, .int .u8 r.kind, .int .u32 r.flags, .int .u64 r.exp, .string r.body] 35
  obtain ⟨w1, hw1⟩ : ∃ u, w.alloc (.cells #[.string r.key, .int .u64 r.s.p, .int .u32 r.s.l, .int .u8 r.s.n, .int .u8 r.kind, .int .u32 r.flags, .int .u64 r.exp, .string r.body] 35) = u := ⟨_, rfl⟩
  obtain ⟨Z, hZ⟩ : ∃ u, w.heap.size = u := ⟨_, rfl⟩
  rw [hw1] at kz aZ
  rw [hZ] at aZ
  have HK1 := hid kz
  have HZ := hid aZ
  clear kz aZ
  obtain ⟨v, hX, hO, hF⟩ := h
  have HF : Hid (∀ b, F b ↔ (b = X ∨ v.ownBlock = some b)) := hid hF
  have HX := hid hX
  have HOr := hid hO
  have HR := hid g.rise
  have HFr := hid (fun u => fresh_any r hsm.1 u)
  have HMy := May_any r hr.1 hr.2.2.2.2.2 w1
  have HZc : Hid (∀ u, Kept w1 u → u.cell? ⟨Z, 0, none⟩ = some (.string r.key) ∧ u.cell? ⟨Z, 1, none⟩ = some (.int .u64 r.s.p) ∧ u.cell? ⟨Z, 2, none⟩ = some (.int .u32 r.s.l) ∧ u.cell? ⟨Z, 3, none⟩ = some (.int .u8 r.s.n) ∧ u.cell? ⟨Z, 4, none⟩ = some (.int .u8 r.kind) ∧ u.cell? ⟨Z, 5, none⟩ = some (.int .u32 r.flags) ∧ u.cell? ⟨Z, 6, none⟩ = some (.int .u64 r.exp) ∧ u.cell? ⟨Z, 7, none⟩ = some (.string r.body)) := hid (fun u ku => by
    have a := at_kept HZ.out ku
    exact ⟨at_cell a 0, at_cell a 1, at_cell a 2, at_cell a 3, at_cell a 4, at_cell a 5, at_cell a 6, at_cell a 7⟩)
  obtain ⟨z0, z1, z2, z3, z4, z5, z6, z7⟩ := HZc.out w1 (kept_refl w1)
  have hll : t.l.length ≤ 64 := by have := g.len; have := g.n2; omega
  have HLn : Hid (t.l.length ≤ t.n) := hid g.len
  obtain ⟨n, l⟩ := t
  simp only at hll HLn HH HX HOr HR
  have HP := hid (fun u (ku : Kept w u) => place_any X n l v (by omega) HR.out r.key u (at_kept HX.out ku) (og_stays HOr.out ku))
  clear hX hO hF g hsm
  cases hb : badA r with
  | true =>
    have HB := hid (addX_bad (n := n) (l := l) hb)
    have hb2 : (mayR r = true ∧ r.kind = 3) ∨ mayR r = false := by
      unfold badA at hb
      cases q : mayR r with
      | true => rw [q] at hb; simp at hb; exact .inl ⟨rfl, hb⟩
      | false => exact .inr rfl
    rcases hb2 with ⟨bm, bk⟩ | bm
    · rw [bm] at HMy
      have hkd : (r.kind == 3) = true := by simpa using bk
      clear hb bm bk hr
      go_enter Try.func12, Try.ntmps12
      go_wp2_with fail
      refine HMy.mono ?_
      rintro e w2 ⟨rfl, k2⟩
      have HK2 := hid (kept_trans HK1.out k2)
      clear z0 z1 z2 z3 z4 z5 z6 z7
      obtain ⟨z0, z1, z2, z3, z4, z5, z6, z7⟩ := HZc.out w2 k2
      clear k2 HMy
      go_wp2_with fail
      go_ret
      exact add_says (add_same HH.out HK2.out) HB.out.1.symm HB.out.2.symm
    · rw [bm] at HMy
      clear hb bm hr
      go_enter Try.func12, Try.ntmps12
      go_wp2_with fail
      refine HMy.mono ?_
      rintro e w2 ⟨rfl, k2⟩
      have HK2 := hid (kept_trans HK1.out k2)
      clear k2 HMy
      go_wp2_with fail
      go_ret
      exact add_says (add_same HH.out HK2.out) HB.out.1.symm HB.out.2.symm
  | false =>
    obtain ⟨bm, bk⟩ := bad_not hb
    rw [bm] at HMy
    have hkd : (r.kind == 3) = false := by simpa using bk
    have HBd := hid hb
    clear hb bm bk hr
    go_enter Try.func12, Try.ntmps12
    go_wp2_with fail
    refine HMy.mono ?_
    rintro e w2 ⟨rfl, k2⟩
    have HK12 := hid k2
    have HK2 := hid (kept_trans HK1.out k2)
    clear z0 z1 z2 z3 z4 z5 z6 z7
    obtain ⟨z0, z1, z2, z3, z4, z5, z6, z7⟩ := HZc.out w2 k2
    have hP := HP.out w2 HK2.out
    clear k2 HMy
    go_wp2_with fail
    refine hP.mono ?_
    rintro e w3 ⟨i, hc, rfl, k3⟩
    have HK3 := hid (kept_trans HK2.out k3)
    have HK13 := hid (kept_trans HK12.out k3)
    clear z0 z1 z2 z3 z4 z5 z6 z7 hP k3
    cases hh : hit l r.key i with
    | true =>
      have hf := cut_fnd hc hh
      obtain ⟨x, hx, -⟩ := hit_some hh
      have him : i < l.length := (List.getElem?_eq_some_iff.1 hx).1
      have HE := hid (add_old (n := n) HBd.out hf hx)
      obtain ⟨G, cap, e5⟩ := og_some HOr.out (fun e => by
        subst e
        obtain ⟨a, c, e, _⟩ := og_is encH_ok HOr.out
        injection e with e1 e2
        omega)
      subst e5
      have HXi := hid hx
      have HXG : Hid (X ≠ G) := hid (fun e => ho_ne HX.out HOr.out G rfl e.symm)
      have HZG : Hid (Z ≠ G) := hid (fun e => by
        obtain ⟨cs, hcs⟩ := own_typeH (og_stays HOr.out HK1.out) (b := G) rfl
        exact at_ne HZ.out hcs (by decide) e)
      have HCm := hid (fun u => Compare_any x.r r u)
      generalize hm : l.length = m at *
      have HS : Hid (∀ u, Kept w3 u → (u.cell? ⟨X, 1, none⟩ = some (.slice (some ⟨G, 0, none⟩) m cap)) ∧ (u.cell? ⟨Z, 0, none⟩ = some (.string r.key)) ∧ (u.cell? ⟨Z, 1, none⟩ = some (.int .u64 r.s.p)) ∧ (u.cell? ⟨Z, 2, none⟩ = some (.int .u32 r.s.l)) ∧ (u.cell? ⟨Z, 3, none⟩ = some (.int .u8 r.s.n)) ∧ (u.cell? ⟨Z, 4, none⟩ = some (.int .u8 r.kind)) ∧ (u.cell? ⟨Z, 5, none⟩ = some (.int .u32 r.flags)) ∧ (u.cell? ⟨Z, 6, none⟩ = some (.int .u64 r.exp)) ∧ (u.cell? ⟨Z, 7, none⟩ = some (.string r.body)) ∧ (u.cell? ⟨G, i * 9, none⟩ = some (.string x.r.key)) ∧ (u.cell? ⟨G, i * 9 + 1, none⟩ = some (.int .u64 x.r.s.p)) ∧ (u.cell? ⟨G, i * 9 + 2, none⟩ = some (.int .u32 x.r.s.l)) ∧ (u.cell? ⟨G, i * 9 + 3, none⟩ = some (.int .u8 x.r.s.n)) ∧ (u.cell? ⟨G, i * 9 + 4, none⟩ = some (.int .u8 x.r.kind)) ∧ (u.cell? ⟨G, i * 9 + 5, none⟩ = some (.int .u32 x.r.flags)) ∧ (u.cell? ⟨G, i * 9 + 6, none⟩ = some (.int .u64 x.r.exp)) ∧ (u.cell? ⟨G, i * 9 + 7, none⟩ = some (.string x.r.body))) := hid (fun u ku => by
        have a := at_kept HX.out (kept_trans HK3.out ku)
        have z := at_kept HZ.out (kept_trans HK13.out ku)
        have q := rg_H (rg_own encH_ok (og_stays HOr.out (kept_trans HK3.out ku))) HXi.out
        simp only [Nat.zero_add] at q
        obtain ⟨q0, q1, q2, q3, q4, q5, q6, q7, -⟩ := q
        exact ⟨at_cell a 1, at_cell z 0, at_cell z 1, at_cell z 2, at_cell z 3, at_cell z 4, at_cell z 5, at_cell z 6, at_cell z 7, q0, q1, q2, q3, q4, q5, q6, q7⟩)
      have hi0 : decide ((i : Int) < 0) = false := by simp
      have hiz : (i : Int) < (m : Int) := by omega
      have HIM : Hid (i < m) := hid him
      have HKd : Hid (Kept w3 w3.drew) := hid (kept_drewN (kept_refl w3) 1)
      have hS0 := HS.out w3 (kept_refl w3)
      have hSd := HS.out w3.drew HKd.out
      have HLs : Hid (decide (cmpR x.r r < 0) = lessR x.r r) := hid (by
        have h9 := newer_less HXi.out r
        unfold newer at h9
        rw [HXi.out] at h9
        exact h9)
      clear hc hh hf hx him hm
      generalize cmpR x.r r = cv at *
      cases hls : lessR x.r r with
      | false =>
        have hcv : decide (cv < 0) = false := HLs.out.trans hls
        have hcz : ¬ cv < 0 := of_decide_eq_false hcv
        have HF2 : Hid (addE n l r = 0 ∧ addL n l r = l) := hid ⟨HE.out.1, by rw [HE.out.2, hls]; rfl⟩
        clear hls
        go_wp2_with fail
        refine wp_region_noPanic ?_
        refine wp_region_held_drew (S := (fun w' => (w'.cell? ⟨X, 1, none⟩ = some (.slice (some ⟨G, 0, none⟩) m cap)) ∧ (w'.cell? ⟨Z, 0, none⟩ = some (.string r.key)) ∧ (w'.cell? ⟨Z, 1, none⟩ = some (.int .u64 r.s.p)) ∧ (w'.cell? ⟨Z, 2, none⟩ = some (.int .u32 r.s.l)) ∧ (w'.cell? ⟨Z, 3, none⟩ = some (.int .u8 r.s.n)) ∧ (w'.cell? ⟨Z, 4, none⟩ = some (.int .u8 r.kind)) ∧ (w'.cell? ⟨Z, 5, none⟩ = some (.int .u32 r.flags)) ∧ (w'.cell? ⟨Z, 6, none⟩ = some (.int .u64 r.exp)) ∧ (w'.cell? ⟨Z, 7, none⟩ = some (.string r.body)) ∧ (w'.cell? ⟨G, i * 9, none⟩ = some (.string x.r.key)) ∧ (w'.cell? ⟨G, i * 9 + 1, none⟩ = some (.int .u64 x.r.s.p)) ∧ (w'.cell? ⟨G, i * 9 + 2, none⟩ = some (.int .u32 x.r.s.l)) ∧ (w'.cell? ⟨G, i * 9 + 3, none⟩ = some (.int .u8 x.r.s.n)) ∧ (w'.cell? ⟨G, i * 9 + 4, none⟩ = some (.int .u8 x.r.kind)) ∧ (w'.cell? ⟨G, i * 9 + 5, none⟩ = some (.int .u32 x.r.flags)) ∧ (w'.cell? ⟨G, i * 9 + 6, none⟩ = some (.int .u64 x.r.exp)) ∧ (w'.cell? ⟨G, i * 9 + 7, none⟩ = some (.string x.r.body)))) (by kernel_rfl) (by assumption) (fun hHeld => ?_)
        generalize w3.drew = wd at *
        refine wpAnyH_take (i := 0) (v := .pointer (some ⟨X, 0, none⟩)) rfl (by kernel_rfl) (by kernel_rfl) (by kernel_rfl) (fun _ _ _ h => h) (Or.inl ⟨by rfl, fun w hSw => by (try dsimp only at hSw); go_simp⟩) (by assumption) ?_
        try simp only [List.getElem_toArray, List.getElem_cons_zero, List.getElem_cons_succ, Act.put, List.setIfInBounds_toArray, List.set_cons_zero, List.set_cons_succ]
        refine wpAnyH_take (i := 1) (v := .pointer (some ⟨X, 0, none⟩)) rfl (by kernel_rfl) (by kernel_rfl) (by kernel_rfl) (fun _ _ _ h => h) (Or.inl ⟨by rfl, fun w hSw => by (try dsimp only at hSw); go_simp⟩) (by assumption) ?_
        try simp only [List.getElem_toArray, List.getElem_cons_zero, List.getElem_cons_succ, Act.put, List.setIfInBounds_toArray, List.set_cons_zero, List.set_cons_succ]
        refine wpAnyH_take (i := 2) (v := .pointer (some ⟨X, 1, none⟩)) rfl (by kernel_rfl) (by kernel_rfl) (by kernel_rfl) (fun _ _ _ h => h) (Or.inl ⟨by rfl, fun w hSw => by (try dsimp only at hSw); go_simp⟩) (by assumption) ?_
        try simp only [List.getElem_toArray, List.getElem_cons_zero, List.getElem_cons_succ, Act.put, List.setIfInBounds_toArray, List.set_cons_zero, List.set_cons_succ]
        refine wpAnyH_take (i := 3) (v := .slice (some ⟨G, 0, none⟩) m cap) rfl (by kernel_rfl) (by kernel_rfl) (by kernel_rfl) (fun _ _ _ h => h) (Or.inl ⟨by rfl, fun w hSw => by (try dsimp only at hSw); go_simp⟩) (by assumption) ?_
        try simp only [List.getElem_toArray, List.getElem_cons_zero, List.getElem_cons_succ, Act.put, List.setIfInBounds_toArray, List.set_cons_zero, List.set_cons_succ]
        refine wpAnyH_take (i := 4) (v := .int .i64 (i : Int)) rfl (by kernel_rfl) (by kernel_rfl) (by kernel_rfl) (fun _ _ _ h => h) (Or.inl ⟨by rfl, fun w hSw => by (try dsimp only at hSw); go_simp⟩) (by assumption) ?_
        try simp only [List.getElem_toArray, List.getElem_cons_zero, List.getElem_cons_succ, Act.put, List.setIfInBounds_toArray, List.set_cons_zero, List.set_cons_succ]
        refine wpAnyH_take (i := 5) (v := .pointer (some ⟨G, i * 9, none⟩)) rfl (by kernel_rfl) (by kernel_rfl) (by kernel_rfl) (fun _ _ _ h => h) (Or.inl ⟨by rfl, fun w hSw => by (try dsimp only at hSw); go_simp⟩) (by assumption) ?_
        try simp only [List.getElem_toArray, List.getElem_cons_zero, List.getElem_cons_succ, Act.put, List.setIfInBounds_toArray, List.set_cons_zero, List.set_cons_succ]
        refine wpAnyH_take (i := 6) (v := .pointer (some ⟨G, i * 9, none⟩)) rfl (by kernel_rfl) (by kernel_rfl) (by kernel_rfl) (fun _ _ _ h => h) (Or.inl ⟨by rfl, fun w hSw => by (try dsimp only at hSw); go_simp⟩) (by assumption) ?_
        try simp only [List.getElem_toArray, List.getElem_cons_zero, List.getElem_cons_succ, Act.put, List.setIfInBounds_toArray, List.set_cons_zero, List.set_cons_succ]
        refine wpAnyH_take (i := 7) (v := .agg #[.string x.r.key, .int .u64 x.r.s.p, .int .u32 x.r.s.l, .int .u8 x.r.s.n, .int .u8 x.r.kind, .int .u32 x.r.flags, .int .u64 x.r.exp, .string x.r.body]) rfl (by kernel_rfl) (by kernel_rfl) (by kernel_rfl) (fun _ _ _ h => h) (Or.inl ⟨by rfl, fun w hSw => by (try dsimp only at hSw); go_simp⟩) (by assumption) ?_
        try simp only [List.getElem_toArray, List.getElem_cons_zero, List.getElem_cons_succ, Act.put, List.setIfInBounds_toArray, List.set_cons_zero, List.set_cons_succ]
        refine wpAnyH_take (i := 8) (v := .agg #[.string r.key, .int .u64 r.s.p, .int .u32 r.s.l, .int .u8 r.s.n, .int .u8 r.kind, .int .u32 r.flags, .int .u64 r.exp, .string r.body]) rfl (by kernel_rfl) (by kernel_rfl) (by kernel_rfl) (fun _ _ _ h => h) (Or.inl ⟨by rfl, fun w hSw => by (try dsimp only at hSw); go_simp⟩) (by assumption) ?_
        try simp only [List.getElem_toArray, List.getElem_cons_zero, List.getElem_cons_succ, Act.put, List.setIfInBounds_toArray, List.set_cons_zero, List.set_cons_succ]
        refine wpAnyH_ready (rs := [9]) (by kernel_rfl) (by simp) ?_
        refine AllReadyH.cons (i := 9) rfl (fun K hK => ?_) AllReadyH.nil
        go_simp
        refine (HCm.out wd).mono ?_
        rintro e w5 ⟨rfl, k5⟩
        have HK5 := hid (kept_trans HKd.out k5)
        have hS := HS.out w5 HK5.out
        clear k5
        clear hHeld
        show K _ _
        refine hK.out _ _ (by assumption) (fun hHeld => ?_)
        clear hK K
        try simp only [List.getElem_toArray, List.getElem_cons_zero, List.getElem_cons_succ, Act.put, List.setIfInBounds_toArray, List.set_cons_zero, List.set_cons_succ]
        refine wpAnyH_take (i := 10) (v := .bool false) rfl (by kernel_rfl) (by kernel_rfl) (by kernel_rfl) (fun _ _ _ h => h) (Or.inl ⟨by rfl, fun w hSw => by (try dsimp only at hSw); go_simp⟩) (by assumption) ?_
        try simp only [List.getElem_toArray, List.getElem_cons_zero, List.getElem_cons_succ, Act.put, List.setIfInBounds_toArray, List.set_cons_zero, List.set_cons_succ]
        refine wpAnyH_done (by kernel_rfl) ?_ _
        refine NoPanic.normal ?_
        clear hSd hS0 hS hHeld
        go_wp2_with fail
        go_ret
        exact add_says (add_same HH.out (kept_trans HK3.out HK5.out)) HF2.out.1.symm HF2.out.2.symm
      | true =>
        have hcv : decide (cv < 0) = true := HLs.out.trans hls
        have hcz : cv < 0 := of_decide_eq_true hcv
        have HF2 : Hid (addE n l r = 0 ∧ addL n l r = l.set i ⟨r, nob⟩) := hid ⟨HE.out.1, by rw [HE.out.2, hls]; rfl⟩
        clear hls
        go_wp2_with fail
        refine wp_region_noPanic ?_
        refine wp_region_held_drew (S := (fun w' => (w'.cell? ⟨X, 1, none⟩ = some (.slice (some ⟨G, 0, none⟩) m cap)) ∧ (w'.cell? ⟨Z, 0, none⟩ = some (.string r.key)) ∧ (w'.cell? ⟨Z, 1, none⟩ = some (.int .u64 r.s.p)) ∧ (w'.cell? ⟨Z, 2, none⟩ = some (.int .u32 r.s.l)) ∧ (w'.cell? ⟨Z, 3, none⟩ = some (.int .u8 r.s.n)) ∧ (w'.cell? ⟨Z, 4, none⟩ = some (.int .u8 r.kind)) ∧ (w'.cell? ⟨Z, 5, none⟩ = some (.int .u32 r.flags)) ∧ (w'.cell? ⟨Z, 6, none⟩ = some (.int .u64 r.exp)) ∧ (w'.cell? ⟨Z, 7, none⟩ = some (.string r.body)) ∧ (w'.cell? ⟨G, i * 9, none⟩ = some (.string x.r.key)) ∧ (w'.cell? ⟨G, i * 9 + 1, none⟩ = some (.int .u64 x.r.s.p)) ∧ (w'.cell? ⟨G, i * 9 + 2, none⟩ = some (.int .u32 x.r.s.l)) ∧ (w'.cell? ⟨G, i * 9 + 3, none⟩ = some (.int .u8 x.r.s.n)) ∧ (w'.cell? ⟨G, i * 9 + 4, none⟩ = some (.int .u8 x.r.kind)) ∧ (w'.cell? ⟨G, i * 9 + 5, none⟩ = some (.int .u32 x.r.flags)) ∧ (w'.cell? ⟨G, i * 9 + 6, none⟩ = some (.int .u64 x.r.exp)) ∧ (w'.cell? ⟨G, i * 9 + 7, none⟩ = some (.string x.r.body)))) (by kernel_rfl) (by assumption) (fun hHeld => ?_)
        generalize w3.drew = wd at *
        refine wpAnyH_take (i := 0) (v := .pointer (some ⟨X, 0, none⟩)) rfl (by kernel_rfl) (by kernel_rfl) (by kernel_rfl) (fun _ _ _ h => h) (Or.inl ⟨by rfl, fun w hSw => by (try dsimp only at hSw); go_simp⟩) (by assumption) ?_
        try simp only [List.getElem_toArray, List.getElem_cons_zero, List.getElem_cons_succ, Act.put, List.setIfInBounds_toArray, List.set_cons_zero, List.set_cons_succ]
        refine wpAnyH_take (i := 1) (v := .pointer (some ⟨X, 0, none⟩)) rfl (by kernel_rfl) (by kernel_rfl) (by kernel_rfl) (fun _ _ _ h => h) (Or.inl ⟨by rfl, fun w hSw => by (try dsimp only at hSw); go_simp⟩) (by assumption) ?_
        try simp only [List.getElem_toArray, List.getElem_cons_zero, List.getElem_cons_succ, Act.put, List.setIfInBounds_toArray, List.set_cons_zero, List.set_cons_succ]
        refine wpAnyH_take (i := 2) (v := .pointer (some ⟨X, 1, none⟩)) rfl (by kernel_rfl) (by kernel_rfl) (by kernel_rfl) (fun _ _ _ h => h) (Or.inl ⟨by rfl, fun w hSw => by (try dsimp only at hSw); go_simp⟩) (by assumption) ?_
        try simp only [List.getElem_toArray, List.getElem_cons_zero, List.getElem_cons_succ, Act.put, List.setIfInBounds_toArray, List.set_cons_zero, List.set_cons_succ]
        refine wpAnyH_take (i := 3) (v := .slice (some ⟨G, 0, none⟩) m cap) rfl (by kernel_rfl) (by kernel_rfl) (by kernel_rfl) (fun _ _ _ h => h) (Or.inl ⟨by rfl, fun w hSw => by (try dsimp only at hSw); go_simp⟩) (by assumption) ?_
        try simp only [List.getElem_toArray, List.getElem_cons_zero, List.getElem_cons_succ, Act.put, List.setIfInBounds_toArray, List.set_cons_zero, List.set_cons_succ]
        refine wpAnyH_take (i := 4) (v := .int .i64 (i : Int)) rfl (by kernel_rfl) (by kernel_rfl) (by kernel_rfl) (fun _ _ _ h => h) (Or.inl ⟨by rfl, fun w hSw => by (try dsimp only at hSw); go_simp⟩) (by assumption) ?_
        try simp only [List.getElem_toArray, List.getElem_cons_zero, List.getElem_cons_succ, Act.put, List.setIfInBounds_toArray, List.set_cons_zero, List.set_cons_succ]
        refine wpAnyH_take (i := 5) (v := .pointer (some ⟨G, i * 9, none⟩)) rfl (by kernel_rfl) (by kernel_rfl) (by kernel_rfl) (fun _ _ _ h => h) (Or.inl ⟨by rfl, fun w hSw => by (try dsimp only at hSw); go_simp⟩) (by assumption) ?_
        try simp only [List.getElem_toArray, List.getElem_cons_zero, List.getElem_cons_succ, Act.put, List.setIfInBounds_toArray, List.set_cons_zero, List.set_cons_succ]
        refine wpAnyH_take (i := 6) (v := .pointer (some ⟨G, i * 9, none⟩)) rfl (by kernel_rfl) (by kernel_rfl) (by kernel_rfl) (fun _ _ _ h => h) (Or.inl ⟨by rfl, fun w hSw => by (try dsimp only at hSw); go_simp⟩) (by assumption) ?_
        try simp only [List.getElem_toArray, List.getElem_cons_zero, List.getElem_cons_succ, Act.put, List.setIfInBounds_toArray, List.set_cons_zero, List.set_cons_succ]
        refine wpAnyH_take (i := 7) (v := .agg #[.string x.r.key, .int .u64 x.r.s.p, .int .u32 x.r.s.l, .int .u8 x.r.s.n, .int .u8 x.r.kind, .int .u32 x.r.flags, .int .u64 x.r.exp, .string x.r.body]) rfl (by kernel_rfl) (by kernel_rfl) (by kernel_rfl) (fun _ _ _ h => h) (Or.inl ⟨by rfl, fun w hSw => by (try dsimp only at hSw); go_simp⟩) (by assumption) ?_
        try simp only [List.getElem_toArray, List.getElem_cons_zero, List.getElem_cons_succ, Act.put, List.setIfInBounds_toArray, List.set_cons_zero, List.set_cons_succ]
        refine wpAnyH_take (i := 8) (v := .agg #[.string r.key, .int .u64 r.s.p, .int .u32 r.s.l, .int .u8 r.s.n, .int .u8 r.kind, .int .u32 r.flags, .int .u64 r.exp, .string r.body]) rfl (by kernel_rfl) (by kernel_rfl) (by kernel_rfl) (fun _ _ _ h => h) (Or.inl ⟨by rfl, fun w hSw => by (try dsimp only at hSw); go_simp⟩) (by assumption) ?_
        try simp only [List.getElem_toArray, List.getElem_cons_zero, List.getElem_cons_succ, Act.put, List.setIfInBounds_toArray, List.set_cons_zero, List.set_cons_succ]
        refine wpAnyH_ready (rs := [9]) (by kernel_rfl) (by simp) ?_
        refine AllReadyH.cons (i := 9) rfl (fun K hK => ?_) AllReadyH.nil
        go_simp
        refine (HCm.out wd).mono ?_
        rintro e w5 ⟨rfl, k5⟩
        have HK5 := hid (kept_trans HKd.out k5)
        have hS := HS.out w5 HK5.out
        clear k5
        clear hHeld
        show K _ _
        refine hK.out _ _ (by assumption) (fun hHeld => ?_)
        clear hK K
        try simp only [List.getElem_toArray, List.getElem_cons_zero, List.getElem_cons_succ, Act.put, List.setIfInBounds_toArray, List.set_cons_zero, List.set_cons_succ]
        refine wpAnyH_take (i := 10) (v := .bool true) rfl (by kernel_rfl) (by kernel_rfl) (by kernel_rfl) (fun _ _ _ h => h) (Or.inl ⟨by rfl, fun w hSw => by (try dsimp only at hSw); go_simp⟩) (by assumption) ?_
        try simp only [List.getElem_toArray, List.getElem_cons_zero, List.getElem_cons_succ, Act.put, List.setIfInBounds_toArray, List.set_cons_zero, List.set_cons_succ]
        refine wpAnyH_done (by kernel_rfl) ?_ _
        refine NoPanic.normal ?_
        clear hSd hS0 hS hHeld
        have HK35 := hid (kept_trans HK3.out HK5.out)
        have HK15 := hid (kept_trans HK13.out HK5.out)
        have HPut : Hid (∀ u, Kept w5 u → ((u.cell? ⟨X, 1, none⟩ = some (.slice (some ⟨G, 0, none⟩) m cap) ∧ u.cell? ⟨Z, 0, none⟩ = some (.string r.key) ∧ u.cell? ⟨Z, 1, none⟩ = some (.int .u64 r.s.p) ∧ u.cell? ⟨Z, 2, none⟩ = some (.int .u32 r.s.l) ∧ u.cell? ⟨Z, 3, none⟩ = some (.int .u8 r.s.n) ∧ u.cell? ⟨Z, 4, none⟩ = some (.int .u8 r.kind) ∧ u.cell? ⟨Z, 5, none⟩ = some (.int .u32 r.flags) ∧ u.cell? ⟨Z, 6, none⟩ = some (.int .u64 r.exp) ∧ u.cell? ⟨Z, 7, none⟩ = some (.string r.body)) ∧ (u.cell? ⟨G, i * 9, none⟩ = some (.string x.r.key) ∧ u.cell? ⟨G, i * 9 + 1, none⟩ = some (.int .u64 x.r.s.p) ∧ u.cell? ⟨G, i * 9 + 2, none⟩ = some (.int .u32 x.r.s.l) ∧ u.cell? ⟨G, i * 9 + 3, none⟩ = some (.int .u8 x.r.s.n) ∧ u.cell? ⟨G, i * 9 + 4, none⟩ = some (.int .u8 x.r.kind) ∧ u.cell? ⟨G, i * 9 + 5, none⟩ = some (.int .u32 x.r.flags) ∧ u.cell? ⟨G, i * 9 + 6, none⟩ = some (.int .u64 x.r.exp) ∧ u.cell? ⟨G, i * 9 + 7, none⟩ = some (.string x.r.body) ∧ u.cell? ⟨G, i * 9 + 8, none⟩ = some (.int .u64 (ackI x.has 64))) ∧ (∀ j, u.frozen? ⟨G, j, none⟩ = false) ∧ AddE X ⟨n, l⟩ F (addE n l r) (addL n l r) w (.returned (.int .i64 0)) (((((((((u.setCell ⟨G, i * 9, none⟩ (.string r.key)).setCell ⟨G, i * 9 + 1, none⟩ (.int .u64 r.s.p)).setCell ⟨G, i * 9 + 2, none⟩ (.int .u32 r.s.l)).setCell ⟨G, i * 9 + 3, none⟩ (.int .u8 r.s.n)).setCell ⟨G, i * 9 + 4, none⟩ (.int .u8 r.kind)).setCell ⟨G, i * 9 + 5, none⟩ (.int .u32 r.flags)).setCell ⟨G, i * 9 + 6, none⟩ (.int .u64 r.exp)).setCell ⟨G, i * 9 + 7, none⟩ (.string r.body)).setCell ⟨G, i * 9 + 8, none⟩ (.int .u64 0)) ∧ ((((((((((u.setCell ⟨G, i * 9, none⟩ (.string r.key)).setCell ⟨G, i * 9 + 1, none⟩ (.int .u64 r.s.p)).setCell ⟨G, i * 9 + 2, none⟩ (.int .u32 r.s.l)).setCell ⟨G, i * 9 + 3, none⟩ (.int .u8 r.s.n)).setCell ⟨G, i * 9 + 4, none⟩ (.int .u8 r.kind)).setCell ⟨G, i * 9 + 5, none⟩ (.int .u32 r.flags)).setCell ⟨G, i * 9 + 6, none⟩ (.int .u64 r.exp)).setCell ⟨G, i * 9 + 7, none⟩ (.string r.body)).setCell ⟨G, i * 9 + 8, none⟩ (.int .u64 0)).cell? ⟨X, 1, none⟩ = some (.slice (some ⟨G, 0, none⟩) m cap) ∧ (((((((((u.setCell ⟨G, i * 9, none⟩ (.string r.key)).setCell ⟨G, i * 9 + 1, none⟩ (.int .u64 r.s.p)).setCell ⟨G, i * 9 + 2, none⟩ (.int .u32 r.s.l)).setCell ⟨G, i * 9 + 3, none⟩ (.int .u8 r.s.n)).setCell ⟨G, i * 9 + 4, none⟩ (.int .u8 r.kind)).setCell ⟨G, i * 9 + 5, none⟩ (.int .u32 r.flags)).setCell ⟨G, i * 9 + 6, none⟩ (.int .u64 r.exp)).setCell ⟨G, i * 9 + 7, none⟩ (.string r.body)).setCell ⟨G, i * 9 + 8, none⟩ (.int .u64 0)).cell? ⟨Z, 0, none⟩ = some (.string r.key) ∧ (((((((((u.setCell ⟨G, i * 9, none⟩ (.string r.key)).setCell ⟨G, i * 9 + 1, none⟩ (.int .u64 r.s.p)).setCell ⟨G, i * 9 + 2, none⟩ (.int .u32 r.s.l)).setCell ⟨G, i * 9 + 3, none⟩ (.int .u8 r.s.n)).setCell ⟨G, i * 9 + 4, none⟩ (.int .u8 r.kind)).setCell ⟨G, i * 9 + 5, none⟩ (.int .u32 r.flags)).setCell ⟨G, i * 9 + 6, none⟩ (.int .u64 r.exp)).setCell ⟨G, i * 9 + 7, none⟩ (.string r.body)).setCell ⟨G, i * 9 + 8, none⟩ (.int .u64 0)).cell? ⟨Z, 1, none⟩ = some (.int .u64 r.s.p) ∧ (((((((((u.setCell ⟨G, i * 9, none⟩ (.string r.key)).setCell ⟨G, i * 9 + 1, none⟩ (.int .u64 r.s.p)).setCell ⟨G, i * 9 + 2, none⟩ (.int .u32 r.s.l)).setCell ⟨G, i * 9 + 3, none⟩ (.int .u8 r.s.n)).setCell ⟨G, i * 9 + 4, none⟩ (.int .u8 r.kind)).setCell ⟨G, i * 9 + 5, none⟩ (.int .u32 r.flags)).setCell ⟨G, i * 9 + 6, none⟩ (.int .u64 r.exp)).setCell ⟨G, i * 9 + 7, none⟩ (.string r.body)).setCell ⟨G, i * 9 + 8, none⟩ (.int .u64 0)).cell? ⟨Z, 2, none⟩ = some (.int .u32 r.s.l) ∧ (((((((((u.setCell ⟨G, i * 9, none⟩ (.string r.key)).setCell ⟨G, i * 9 + 1, none⟩ (.int .u64 r.s.p)).setCell ⟨G, i * 9 + 2, none⟩ (.int .u32 r.s.l)).setCell ⟨G, i * 9 + 3, none⟩ (.int .u8 r.s.n)).setCell ⟨G, i * 9 + 4, none⟩ (.int .u8 r.kind)).setCell ⟨G, i * 9 + 5, none⟩ (.int .u32 r.flags)).setCell ⟨G, i * 9 + 6, none⟩ (.int .u64 r.exp)).setCell ⟨G, i * 9 + 7, none⟩ (.string r.body)).setCell ⟨G, i * 9 + 8, none⟩ (.int .u64 0)).cell? ⟨Z, 3, none⟩ = some (.int .u8 r.s.n) ∧ (((((((((u.setCell ⟨G, i * 9, none⟩ (.string r.key)).setCell ⟨G, i * 9 + 1, none⟩ (.int .u64 r.s.p)).setCell ⟨G, i * 9 + 2, none⟩ (.int .u32 r.s.l)).setCell ⟨G, i * 9 + 3, none⟩ (.int .u8 r.s.n)).setCell ⟨G, i * 9 + 4, none⟩ (.int .u8 r.kind)).setCell ⟨G, i * 9 + 5, none⟩ (.int .u32 r.flags)).setCell ⟨G, i * 9 + 6, none⟩ (.int .u64 r.exp)).setCell ⟨G, i * 9 + 7, none⟩ (.string r.body)).setCell ⟨G, i * 9 + 8, none⟩ (.int .u64 0)).cell? ⟨Z, 4, none⟩ = some (.int .u8 r.kind) ∧ (((((((((u.setCell ⟨G, i * 9, none⟩ (.string r.key)).setCell ⟨G, i * 9 + 1, none⟩ (.int .u64 r.s.p)).setCell ⟨G, i * 9 + 2, none⟩ (.int .u32 r.s.l)).setCell ⟨G, i * 9 + 3, none⟩ (.int .u8 r.s.n)).setCell ⟨G, i * 9 + 4, none⟩ (.int .u8 r.kind)).setCell ⟨G, i * 9 + 5, none⟩ (.int .u32 r.flags)).setCell ⟨G, i * 9 + 6, none⟩ (.int .u64 r.exp)).setCell ⟨G, i * 9 + 7, none⟩ (.string r.body)).setCell ⟨G, i * 9 + 8, none⟩ (.int .u64 0)).cell? ⟨Z, 5, none⟩ = some (.int .u32 r.flags) ∧ (((((((((u.setCell ⟨G, i * 9, none⟩ (.string r.key)).setCell ⟨G, i * 9 + 1, none⟩ (.int .u64 r.s.p)).setCell ⟨G, i * 9 + 2, none⟩ (.int .u32 r.s.l)).setCell ⟨G, i * 9 + 3, none⟩ (.int .u8 r.s.n)).setCell ⟨G, i * 9 + 4, none⟩ (.int .u8 r.kind)).setCell ⟨G, i * 9 + 5, none⟩ (.int .u32 r.flags)).setCell ⟨G, i * 9 + 6, none⟩ (.int .u64 r.exp)).setCell ⟨G, i * 9 + 7, none⟩ (.string r.body)).setCell ⟨G, i * 9 + 8, none⟩ (.int .u64 0)).cell? ⟨Z, 6, none⟩ = some (.int .u64 r.exp) ∧ (((((((((u.setCell ⟨G, i * 9, none⟩ (.string r.key)).setCell ⟨G, i * 9 + 1, none⟩ (.int .u64 r.s.p)).setCell ⟨G, i * 9 + 2, none⟩ (.int .u32 r.s.l)).setCell ⟨G, i * 9 + 3, none⟩ (.int .u8 r.s.n)).setCell ⟨G, i * 9 + 4, none⟩ (.int .u8 r.kind)).setCell ⟨G, i * 9 + 5, none⟩ (.int .u32 r.flags)).setCell ⟨G, i * 9 + 6, none⟩ (.int .u64 r.exp)).setCell ⟨G, i * 9 + 7, none⟩ (.string r.body)).setCell ⟨G, i * 9 + 8, none⟩ (.int .u64 0)).cell? ⟨Z, 7, none⟩ = some (.string r.body)))) := hid (fun u ku => by
          have a := at_kept HX.out (kept_trans HK35.out ku)
          have z := at_kept HZ.out (kept_trans HK15.out ku)
          have o := og_stays HOr.out (kept_trans HK35.out ku)
          have q := rg_H (rg_own encH_ok o) HXi.out
          simp only [Nat.zero_add] at q
          have a2 := at_setN (o := i * 9) a HXG.out r
          have z2 := at_setN (o := i * 9) z HZG.out r
          refine ⟨⟨at_cell a 1, at_cell z 0, at_cell z 1, at_cell z 2, at_cell z 3, at_cell z 4, at_cell z 5, at_cell z 6, at_cell z 7⟩, q, og_frozen o, ?_, ⟨at_cell a2 1, at_cell z2 0, at_cell z2 1, at_cell z2 2, at_cell z2 3, at_cell z2 4, at_cell z2 5, at_cell z2 6, at_cell z2 7⟩⟩
          rw [HF2.out.1, HF2.out.2]
          refine ⟨F, rfl, ⟨_, a2, og_setN o HIM.out r, HF.out⟩, ?_, fun b hb => .inl hb⟩
          exact tn_comp (tn_kept (kept_trans HK35.out ku)) (tn_turn (turn_setN (Turn.refl G u) r)) (fun b hb => .inl ((HF.out b).2 (.inr (by rw [hb]; rfl)))))
        have HKd5 : Hid (Kept w5 w5.drew) := hid (kept_drewN (kept_refl w5) 1)
        obtain ⟨hS5, -, -, -, -⟩ := HPut.out w5 (kept_refl w5)
        obtain ⟨hS, -, -, -, -⟩ := HPut.out w5.drew HKd5.out
        clear hcv hcz
        go_wp2_with fail
        refine wp_region_noPanic ?_
        refine wp_region_held_drew (S := (fun w' => (w'.cell? ⟨X, 1, none⟩ = some (.slice (some ⟨G, 0, none⟩) m cap)) ∧ (w'.cell? ⟨Z, 0, none⟩ = some (.string r.key)) ∧ (w'.cell? ⟨Z, 1, none⟩ = some (.int .u64 r.s.p)) ∧ (w'.cell? ⟨Z, 2, none⟩ = some (.int .u32 r.s.l)) ∧ (w'.cell? ⟨Z, 3, none⟩ = some (.int .u8 r.s.n)) ∧ (w'.cell? ⟨Z, 4, none⟩ = some (.int .u8 r.kind)) ∧ (w'.cell? ⟨Z, 5, none⟩ = some (.int .u32 r.flags)) ∧ (w'.cell? ⟨Z, 6, none⟩ = some (.int .u64 r.exp)) ∧ (w'.cell? ⟨Z, 7, none⟩ = some (.string r.body)))) (by kernel_rfl) (hS) (fun hHeld => ?_)
        generalize w5.drew = wd at *
        refine wpAnyH_take (i := 0) (v := .pointer (some ⟨X, 0, none⟩)) rfl (by kernel_rfl) (by kernel_rfl) (by kernel_rfl) (fun _ _ _ h => h) (Or.inl ⟨by rfl, fun w hSw => by (try dsimp only at hSw); go_simp⟩) (by assumption) ?_
        try simp only [List.getElem_toArray, List.getElem_cons_zero, List.getElem_cons_succ, Act.put, List.setIfInBounds_toArray, List.set_cons_zero, List.set_cons_succ]
        refine wpAnyH_take (i := 1) (v := .pointer (some ⟨X, 0, none⟩)) rfl (by kernel_rfl) (by kernel_rfl) (by kernel_rfl) (fun _ _ _ h => h) (Or.inl ⟨by rfl, fun w hSw => by (try dsimp only at hSw); go_simp⟩) (by assumption) ?_
        try simp only [List.getElem_toArray, List.getElem_cons_zero, List.getElem_cons_succ, Act.put, List.setIfInBounds_toArray, List.set_cons_zero, List.set_cons_succ]
        refine wpAnyH_take (i := 2) (v := .pointer (some ⟨X, 1, none⟩)) rfl (by kernel_rfl) (by kernel_rfl) (by kernel_rfl) (fun _ _ _ h => h) (Or.inl ⟨by rfl, fun w hSw => by (try dsimp only at hSw); go_simp⟩) (by assumption) ?_
        try simp only [List.getElem_toArray, List.getElem_cons_zero, List.getElem_cons_succ, Act.put, List.setIfInBounds_toArray, List.set_cons_zero, List.set_cons_succ]
        refine wpAnyH_take (i := 3) (v := .slice (some ⟨G, 0, none⟩) m cap) rfl (by kernel_rfl) (by kernel_rfl) (by kernel_rfl) (fun _ _ _ h => h) (Or.inl ⟨by rfl, fun w hSw => by (try dsimp only at hSw); go_simp⟩) (by assumption) ?_
        try simp only [List.getElem_toArray, List.getElem_cons_zero, List.getElem_cons_succ, Act.put, List.setIfInBounds_toArray, List.set_cons_zero, List.set_cons_succ]
        refine wpAnyH_take (i := 4) (v := .int .i64 (i : Int)) rfl (by kernel_rfl) (by kernel_rfl) (by kernel_rfl) (fun _ _ _ h => h) (Or.inl ⟨by rfl, fun w hSw => by (try dsimp only at hSw); go_simp⟩) (by assumption) ?_
        try simp only [List.getElem_toArray, List.getElem_cons_zero, List.getElem_cons_succ, Act.put, List.setIfInBounds_toArray, List.set_cons_zero, List.set_cons_succ]
        refine wpAnyH_take (i := 5) (v := .agg #[.string r.key, .int .u64 r.s.p, .int .u32 r.s.l, .int .u8 r.s.n, .int .u8 r.kind, .int .u32 r.flags, .int .u64 r.exp, .string r.body]) rfl (by kernel_rfl) (by kernel_rfl) (by kernel_rfl) (fun _ _ _ h => h) (Or.inl ⟨by rfl, fun w hSw => by (try dsimp only at hSw); go_simp⟩) (by assumption) ?_
        try simp only [List.getElem_toArray, List.getElem_cons_zero, List.getElem_cons_succ, Act.put, List.setIfInBounds_toArray, List.set_cons_zero, List.set_cons_succ]
        refine wpAnyH_ready (rs := [6]) (by kernel_rfl) (by simp) ?_
        refine AllReadyH.cons (i := 6) rfl (fun K hK => ?_) AllReadyH.nil
        go_simp
        refine (HFr.out wd).mono ?_
        rintro e w6 ⟨rfl, k6⟩
        have HK6 := hid (kept_trans HKd5.out k6)
        obtain ⟨hS, hSc, hfz, hEnd, hS9⟩ := HPut.out w6 HK6.out
        have HEnd := hid hEnd
        have HS9 := hid hS9
        clear k6 hEnd hS9
        clear hHeld
        show K _ _
        refine hK.out _ _ (hS) (fun hHeld => ?_)
        clear hK K
        try simp only [List.getElem_toArray, List.getElem_cons_zero, List.getElem_cons_succ, Act.put, List.setIfInBounds_toArray, List.set_cons_zero, List.set_cons_succ]
        refine wpAnyH_take (i := 7) (v := .agg #[.string r.key, .int .u64 r.s.p, .int .u32 r.s.l, .int .u8 r.s.n, .int .u8 r.kind, .int .u32 r.flags, .int .u64 r.exp, .string r.body, .int .u64 0]) rfl (by kernel_rfl) (by kernel_rfl) (by kernel_rfl) (fun _ _ _ h => h) (Or.inl ⟨by rfl, fun w hSw => by (try dsimp only at hSw); go_simp⟩) (by assumption) ?_
        try simp only [List.getElem_toArray, List.getElem_cons_zero, List.getElem_cons_succ, Act.put, List.setIfInBounds_toArray, List.set_cons_zero, List.set_cons_succ]
        refine wpAnyH_take (i := 8) (v := .pointer (some ⟨G, i * 9, none⟩)) rfl (by kernel_rfl) (by kernel_rfl) (by kernel_rfl) (fun _ _ _ h => h) (Or.inl ⟨by rfl, fun w hSw => by (try dsimp only at hSw); go_simp⟩) (by assumption) ?_
        try simp only [List.getElem_toArray, List.getElem_cons_zero, List.getElem_cons_succ, Act.put, List.setIfInBounds_toArray, List.set_cons_zero, List.set_cons_succ]
        refine wpAnyH_ready (rs := [9]) (by kernel_rfl) (by simp) ?_
        refine AllReadyH.cons (i := 9) rfl (fun K hK => ?_) AllReadyH.nil
        obtain ⟨y0, y1, y2, y3, y4, y5, y6, y7, y8⟩ := hSc
        go_simp
        have hS := HS9.out
        clear hHeld
        show K _ _
        refine hK.out _ _ (hS) (fun hHeld => ?_)
        clear hK K
        try simp only [List.getElem_toArray, List.getElem_cons_zero, List.getElem_cons_succ, Act.put, List.setIfInBounds_toArray, List.set_cons_zero, List.set_cons_succ]
        refine wpAnyH_done (by kernel_rfl) ?_ _
        refine NoPanic.normal ?_
        clear hHeld hS
        go_wp2_with fail
        go_ret
        exact HEnd.out
    | false =>
      have hfn := cut_none HR.out hc hh
      have HIns0 : Hid (insH r l = insA l i ⟨r, nob⟩) := hid (cut_ins hc hh)
      have HIle : Hid (i ≤ l.length) := hid hc.le
      have HE := hid (add_new (n := n) HBd.out hfn)
      obtain ⟨va, vc, e5, hvc1, hvc2⟩ := og_is encH_ok HOr.out
      subst e5
      have HL64 : Hid (l.length ≤ 64) := hid hll
      generalize hm : l.length = m at *
      have HMl := hid hm
      have hX3 := at_kept HX.out HK3.out
      have c0 : w3.cell? ⟨X, 0, none⟩ = some (.int .i64 (n : Int)) := at_cell hX3 0
      have c1 : w3.cell? ⟨X, 1, none⟩ = some (.slice va m vc) := at_cell hX3 1
      unfold maxLen at hvc2
      clear hc hh hfn hm hX3
      by_cases hfull : m = n
      · have hfd : ((m : Int) == (n : Int)) = true := by rw [hfull]; simp
        have HF2 : Hid (addE n l r = 6 ∧ addL n l r = l) := hid (by
          obtain ⟨e1, e2⟩ := HE.out
          rw [e1, e2, if_pos (by omega), if_pos (by omega)]
          exact ⟨rfl, rfl⟩)
        clear hfull
        go_wp2_with fail
        go_quiet (fail)
        go_wp2_with fail
        go_ret
        exact add_says (add_same HH.out (kept_trans HK3.out (kept_drewN (kept_refl w3) _))) HF2.out.1.symm HF2.out.2.symm
      · have hfd : ((m : Int) == (n : Int)) = false := by rw [beq_eq_false_iff_ne]; omega
        have HF2 : Hid (addE n l r = 0 ∧ addL n l r = insA l i ⟨r, nob⟩) := hid (by
          obtain ⟨e1, e2⟩ := HE.out
          have h9 := HLn.out
          rw [e1, e2, if_neg (by omega), if_neg (by omega), HIns0.out]
          exact ⟨rfl, rfl⟩)
        clear hfull
        go_wp2_with fail
        go_quiet (fail)
        obtain ⟨w4, hw4⟩ : ∃ u, w3.drewN nq = u := ⟨_, rfl⟩
        have HK34 : Hid (Kept w3 w4) := hid (by rw [← hw4]; exact kept_drewN (kept_refl w3) nq)
        rw [hw4]
        clear hw4 c0 c1 hfd
        have HIns : Hid (∀ u, Kept w4 u → ((u.cell? ⟨Z, 0, none⟩ = some (.string r.key) ∧ u.cell? ⟨Z, 1, none⟩ = some (.int .u64 r.s.p) ∧ u.cell? ⟨Z, 2, none⟩ = some (.int .u32 r.s.l) ∧ u.cell? ⟨Z, 3, none⟩ = some (.int .u8 r.s.n) ∧ u.cell? ⟨Z, 4, none⟩ = some (.int .u8 r.kind) ∧ u.cell? ⟨Z, 5, none⟩ = some (.int .u32 r.flags) ∧ u.cell? ⟨Z, 6, none⟩ = some (.int .u64 r.exp) ∧ u.cell? ⟨Z, 7, none⟩ = some (.string r.body)) ∧ u.cell? ⟨X, 1, none⟩ = some (.slice va m vc) ∧ (u.alloc (.cells #[.string r.key, .int .u64 r.s.p, .int .u32 r.s.l, .int .u8 r.s.n, .int .u8 r.kind, .int .u32 r.flags, .int .u64 r.exp, .string r.body, .int .u64 0] 61)).cell? ⟨X, 1, none⟩ = some (.slice va m vc) ∧ ((u.alloc (.cells #[.string r.key, .int .u64 r.s.p, .int .u32 r.s.l, .int .u8 r.s.n, .int .u8 r.kind, .int .u32 r.flags, .int .u64 r.exp, .string r.body, .int .u64 0] 61)).cell? ⟨Z, 0, none⟩ = some (.string r.key) ∧ (u.alloc (.cells #[.string r.key, .int .u64 r.s.p, .int .u32 r.s.l, .int .u8 r.s.n, .int .u8 r.kind, .int .u32 r.flags, .int .u64 r.exp, .string r.body, .int .u64 0] 61)).cell? ⟨Z, 1, none⟩ = some (.int .u64 r.s.p) ∧ (u.alloc (.cells #[.string r.key, .int .u64 r.s.p, .int .u32 r.s.l, .int .u8 r.s.n, .int .u8 r.kind, .int .u32 r.flags, .int .u64 r.exp, .string r.body, .int .u64 0] 61)).cell? ⟨Z, 2, none⟩ = some (.int .u32 r.s.l) ∧ (u.alloc (.cells #[.string r.key, .int .u64 r.s.p, .int .u32 r.s.l, .int .u8 r.s.n, .int .u8 r.kind, .int .u32 r.flags, .int .u64 r.exp, .string r.body, .int .u64 0] 61)).cell? ⟨Z, 3, none⟩ = some (.int .u8 r.s.n) ∧ (u.alloc (.cells #[.string r.key, .int .u64 r.s.p, .int .u32 r.s.l, .int .u8 r.s.n, .int .u8 r.kind, .int .u32 r.flags, .int .u64 r.exp, .string r.body, .int .u64 0] 61)).cell? ⟨Z, 4, none⟩ = some (.int .u8 r.kind) ∧ (u.alloc (.cells #[.string r.key, .int .u64 r.s.p, .int .u32 r.s.l, .int .u8 r.s.n, .int .u8 r.kind, .int .u32 r.flags, .int .u64 r.exp, .string r.body, .int .u64 0] 61)).cell? ⟨Z, 5, none⟩ = some (.int .u32 r.flags) ∧ (u.alloc (.cells #[.string r.key, .int .u64 r.s.p, .int .u32 r.s.l, .int .u8 r.s.n, .int .u8 r.kind, .int .u32 r.flags, .int .u64 r.exp, .string r.body, .int .u64 0] 61)).cell? ⟨Z, 6, none⟩ = some (.int .u64 r.exp) ∧ (u.alloc (.cells #[.string r.key, .int .u64 r.s.p, .int .u32 r.s.l, .int .u8 r.s.n, .int .u8 r.kind, .int .u32 r.flags, .int .u64 r.exp, .string r.body, .int .u64 0] 61)).cell? ⟨Z, 7, none⟩ = some (.string r.body)) ∧ (Calls Try.prog 34 #[.slice va m vc, .int .i64 (i : Int), .slice (some ⟨u.heap.size, 0, none⟩) 1 1] (u.alloc (.cells #[.string r.key, .int .u64 r.s.p, .int .u32 r.s.l, .int .u8 r.s.n, .int .u8 r.kind, .int .u32 r.flags, .int .u64 r.exp, .string r.body, .int .u64 0] 61)) (InsC (.slice va m vc) (insA l i ⟨r, nob⟩) (u.alloc (.cells #[.string r.key, .int .u64 r.s.p, .int .u32 r.s.l, .int .u8 r.s.n, .int .u8 r.kind, .int .u32 r.flags, .int .u64 r.exp, .string r.body, .int .u64 0] 61)))) ∧ (∀ v7 w7, Og encH 9 61 w7 0 v7 (insA l i ⟨r, nob⟩) → (∀ b, v7.ownBlock = some b → (Value.slice va m vc).ownBlock = some b ∨ (u.alloc (.cells #[.string r.key, .int .u64 r.s.p, .int .u32 r.s.l, .int .u8 r.s.n, .int .u8 r.kind, .int .u32 r.flags, .int .u64 r.exp, .string r.body, .int .u64 0] 61)).heap.size ≤ b) → Tn (fun b => (Value.slice va m vc).ownBlock = some b) (u.alloc (.cells #[.string r.key, .int .u64 r.s.p, .int .u32 r.s.l, .int .u8 r.s.n, .int .u8 r.kind, .int .u32 r.flags, .int .u64 r.exp, .string r.body, .int .u64 0] 61)) w7 →
            (AddE X ⟨n, l⟩ F (addE n l r) (addL n l r) w (.returned (.int .i64 0)) (w7.setCell ⟨X, 1, none⟩ v7) ∧ ((w7.setCell ⟨X, 1, none⟩ v7).cell? ⟨Z, 0, none⟩ = some (.string r.key) ∧ (w7.setCell ⟨X, 1, none⟩ v7).cell? ⟨Z, 1, none⟩ = some (.int .u64 r.s.p) ∧ (w7.setCell ⟨X, 1, none⟩ v7).cell? ⟨Z, 2, none⟩ = some (.int .u32 r.s.l) ∧ (w7.setCell ⟨X, 1, none⟩ v7).cell? ⟨Z, 3, none⟩ = some (.int .u8 r.s.n) ∧ (w7.setCell ⟨X, 1, none⟩ v7).cell? ⟨Z, 4, none⟩ = some (.int .u8 r.kind) ∧ (w7.setCell ⟨X, 1, none⟩ v7).cell? ⟨Z, 5, none⟩ = some (.int .u32 r.flags) ∧ (w7.setCell ⟨X, 1, none⟩ v7).cell? ⟨Z, 6, none⟩ = some (.int .u64 r.exp) ∧ (w7.setCell ⟨X, 1, none⟩ v7).cell? ⟨Z, 7, none⟩ = some (.string r.body)) ∧ (w7.cell? ⟨Z, 0, none⟩ = some (.string r.key) ∧ w7.cell? ⟨Z, 1, none⟩ = some (.int .u64 r.s.p) ∧ w7.cell? ⟨Z, 2, none⟩ = some (.int .u32 r.s.l) ∧ w7.cell? ⟨Z, 3, none⟩ = some (.int .u8 r.s.n) ∧ w7.cell? ⟨Z, 4, none⟩ = some (.int .u8 r.kind) ∧ w7.cell? ⟨Z, 5, none⟩ = some (.int .u32 r.flags) ∧ w7.cell? ⟨Z, 6, none⟩ = some (.int .u64 r.exp) ∧ w7.cell? ⟨Z, 7, none⟩ = some (.string r.body)) ∧ (w7.cell? ⟨X, 1, none⟩ = some (.slice va m vc) ∧ w7.frozen? ⟨X, 1, none⟩ = false))))) := hid (fun u ku => by
          have k3 := kept_trans HK34.out ku
          have a := at_kept HX.out (kept_trans HK3.out k3)
          have z := at_kept HZ.out (kept_trans HK13.out k3)
          have o := og_stays HOr.out (kept_trans HK3.out k3)
          have kl := kept_alloc (kept_refl u) (.cells #[.string r.key, .int .u64 r.s.p, .int .u32 r.s.l, .int .u8 r.s.n, .int .u8 r.kind, .int .u32 r.flags, .int .u64 r.exp, .string r.body, .int .u64 0] 61)
          have a2 := at_kept a kl
          have z2 := at_kept z kl
          have o2 := og_stays o kl
          have hone := oneH_new u r
          have hne : (Value.slice va m vc).ownBlock ≠ some u.heap.size := fun e => by have := (World.ownsRow.lt o _ e).2; omega
          refine ⟨⟨at_cell z 0, at_cell z 1, at_cell z 2, at_cell z 3, at_cell z 4, at_cell z 5, at_cell z 6, at_cell z 7⟩, at_cell a 1, at_cell a2 1, ⟨at_cell z2 0, at_cell z2 1, at_cell z2 2, at_cell z2 3, at_cell z2 4, at_cell z2 5, at_cell z2 6, at_cell z2 7⟩, insert_any (by rw [HMl.out]; have := HL64.out; omega) (by rw [HMl.out]; exact HIle.out) _ _ o2 hone hne, fun v7 w7 o7 b7 t7 => ?_⟩
          have nX : ¬ (Value.slice va m vc).ownBlock = some X := fun e => ho_ne a2 o2 X e rfl
          have nZ : ¬ (Value.slice va m vc).ownBlock = some Z := fun e => by
            obtain ⟨cs, hcs⟩ := own_typeH o2 e
            exact at_ne hcs z2 (by decide) rfl
          have hX7 := at_tn a2 t7 nX
          have hZ7 := at_tn z2 t7 nZ
          have hXZ : Z ≠ X := at_ne z2 a2 (by decide)
          have z8 := at_other hZ7 hXZ 1 v7
          refine ⟨?_, ⟨at_cell z8 0, at_cell z8 1, at_cell z8 2, at_cell z8 3, at_cell z8 4, at_cell z8 5, at_cell z8 6, at_cell z8 7⟩, ⟨at_cell hZ7 0, at_cell hZ7 1, at_cell hZ7 2, at_cell hZ7 3, at_cell hZ7 4, at_cell hZ7 5, at_cell hZ7 6, at_cell hZ7 7⟩, at_cell hX7 1, at_frozen hX7 1⟩
          rw [HF2.out.1, HF2.out.2]
          have ka := kept_trans (kept_trans HK3.out k3) kl
          refine ⟨fun b => b = X ∨ v7.ownBlock = some b, rfl, ho_store hX7 o7, ?_, fun b hb => ?_⟩
          · exact tn_comp (tn_comp (tn_kept ka) t7 (fun b hb => .inl ((HF.out b).2 (.inr hb)))) (tn_set w7 X 1 v7) (fun b hb => .inl ((HF.out b).2 (.inl hb)))
          · rcases hb with rfl | hb
            · exact .inl ((HF.out _).2 (.inl rfl))
            · rcases b7 b hb with q | q
              · exact .inl ((HF.out b).2 (.inr q))
              · exact .inr (by have := ka.2; omega))
        have HKd : Hid (Kept w4 w4.drew) := hid (kept_drewN (kept_refl w4) 1)
        obtain ⟨hS, hXd, -, -, -, -⟩ := HIns.out w4.drew HKd.out
        go_wp2_with fail
        refine wp_region_noPanic ?_
        refine wp_region_held_drew (S := (fun w' => (w'.cell? ⟨Z, 0, none⟩ = some (.string r.key)) ∧ (w'.cell? ⟨Z, 1, none⟩ = some (.int .u64 r.s.p)) ∧ (w'.cell? ⟨Z, 2, none⟩ = some (.int .u32 r.s.l)) ∧ (w'.cell? ⟨Z, 3, none⟩ = some (.int .u8 r.s.n)) ∧ (w'.cell? ⟨Z, 4, none⟩ = some (.int .u8 r.kind)) ∧ (w'.cell? ⟨Z, 5, none⟩ = some (.int .u32 r.flags)) ∧ (w'.cell? ⟨Z, 6, none⟩ = some (.int .u64 r.exp)) ∧ (w'.cell? ⟨Z, 7, none⟩ = some (.string r.body)))) (by kernel_rfl) (hS) (fun hHeld => ?_)
        generalize w4.drew = wd at *
        refine wpAnyH_take (i := 0) (v := .pointer (some ⟨X, 0, none⟩)) rfl (by kernel_rfl) (by kernel_rfl) (by kernel_rfl) (fun _ _ _ h => h) (Or.inl ⟨by rfl, fun w hSw => by (try dsimp only at hSw); go_simp⟩) (by assumption) ?_
        try simp only [List.getElem_toArray, List.getElem_cons_zero, List.getElem_cons_succ, Act.put, List.setIfInBounds_toArray, List.set_cons_zero, List.set_cons_succ]
        refine wpAnyH_take (i := 1) (v := .pointer (some ⟨X, 0, none⟩)) rfl (by kernel_rfl) (by kernel_rfl) (by kernel_rfl) (fun _ _ _ h => h) (Or.inl ⟨by rfl, fun w hSw => by (try dsimp only at hSw); go_simp⟩) (by assumption) ?_
        try simp only [List.getElem_toArray, List.getElem_cons_zero, List.getElem_cons_succ, Act.put, List.setIfInBounds_toArray, List.set_cons_zero, List.set_cons_succ]
        refine wpAnyH_take (i := 2) (v := .pointer (some ⟨X, 0, none⟩)) rfl (by kernel_rfl) (by kernel_rfl) (by kernel_rfl) (fun _ _ _ h => h) (Or.inl ⟨by rfl, fun w hSw => by (try dsimp only at hSw); go_simp⟩) (by assumption) ?_
        try simp only [List.getElem_toArray, List.getElem_cons_zero, List.getElem_cons_succ, Act.put, List.setIfInBounds_toArray, List.set_cons_zero, List.set_cons_succ]
        refine wpAnyH_take (i := 3) (v := .pointer (some ⟨X, 1, none⟩)) rfl (by kernel_rfl) (by kernel_rfl) (by kernel_rfl) (fun _ _ _ h => h) (Or.inl ⟨by rfl, fun w hSw => by (try dsimp only at hSw); go_simp⟩) (by assumption) ?_
        try simp only [List.getElem_toArray, List.getElem_cons_zero, List.getElem_cons_succ, Act.put, List.setIfInBounds_toArray, List.set_cons_zero, List.set_cons_succ]
        refine wpAnyH_take (i := 5) (v := .int .i64 (i : Int)) rfl (by kernel_rfl) (by kernel_rfl) (by kernel_rfl) (fun _ _ _ h => h) (Or.inl ⟨by rfl, fun w hSw => by (try dsimp only at hSw); go_simp⟩) (by assumption) ?_
        try simp only [List.getElem_toArray, List.getElem_cons_zero, List.getElem_cons_succ, Act.put, List.setIfInBounds_toArray, List.set_cons_zero, List.set_cons_succ]
        refine wpAnyH_take (i := 6) (v := .agg #[.string r.key, .int .u64 r.s.p, .int .u32 r.s.l, .int .u8 r.s.n, .int .u8 r.kind, .int .u32 r.flags, .int .u64 r.exp, .string r.body]) rfl (by kernel_rfl) (by kernel_rfl) (by kernel_rfl) (fun _ _ _ h => h) (Or.inl ⟨by rfl, fun w hSw => by (try dsimp only at hSw); go_simp⟩) (by assumption) ?_
        try simp only [List.getElem_toArray, List.getElem_cons_zero, List.getElem_cons_succ, Act.put, List.setIfInBounds_toArray, List.set_cons_zero, List.set_cons_succ]
        refine wpAnyH_ready (rs := [4, 7]) (by kernel_rfl) (by simp) ?_
        refine AllReadyH.cons (i := 4) rfl (fun K hK => ?_) ?_
        · go_simp
          clear hHeld
          show K _ _
          refine hK.out _ _ (hS) (fun hHeld => ?_)
          clear hK K
          try simp only [List.getElem_toArray, List.getElem_cons_zero, List.getElem_cons_succ, Act.put, List.setIfInBounds_toArray, List.set_cons_zero, List.set_cons_succ]
          refine wpAnyH_ready (rs := [7]) (by kernel_rfl) (by simp) ?_
          refine AllReadyH.cons (i := 7) rfl (fun K hK => ?_) AllReadyH.nil
          go_simp
          refine (HFr.out wd).mono ?_
          rintro e w6 ⟨rfl, k6⟩
          have HK6 := hid (kept_trans HKd.out k6)
          obtain ⟨hS, hX6, hX6a, hSa, hI6, hE6⟩ := HIns.out w6 HK6.out
          have HSa := hid hSa
          have HE6 := hid hE6
          clear k6 hSa hE6
          clear hHeld
          show K _ _
          refine hK.out _ _ (hS) (fun hHeld => ?_)
          clear hK K
          try simp only [List.getElem_toArray, List.getElem_cons_zero, List.getElem_cons_succ, Act.put, List.setIfInBounds_toArray, List.set_cons_zero, List.set_cons_succ]
          refine wpAnyH_take (i := 8) (v := .agg #[.string r.key, .int .u64 r.s.p, .int .u32 r.s.l, .int .u8 r.s.n, .int .u8 r.kind, .int .u32 r.flags, .int .u64 r.exp, .string r.body, .int .u64 0]) rfl (by kernel_rfl) (by kernel_rfl) (by kernel_rfl) (fun _ _ _ h => h) (Or.inl ⟨by rfl, fun w hSw => by (try dsimp only at hSw); go_simp⟩) (by assumption) ?_
          try simp only [List.getElem_toArray, List.getElem_cons_zero, List.getElem_cons_succ, Act.put, List.setIfInBounds_toArray, List.set_cons_zero, List.set_cons_succ]
          refine wpAnyH_ready (rs := [9]) (by kernel_rfl) (by simp) ?_
          refine AllReadyH.cons (i := 9) rfl (fun K hK => ?_) AllReadyH.nil
          go_simp
          have hS := HSa.out
          clear hHeld
          show K _ _
          refine hK.out _ _ (hS) (fun hHeld => ?_)
          clear hK K
          try simp only [List.getElem_toArray, List.getElem_cons_zero, List.getElem_cons_succ, Act.put, List.setIfInBounds_toArray, List.set_cons_zero, List.set_cons_succ]
          refine wpAnyH_ready (rs := [10]) (by kernel_rfl) (by simp) ?_
          refine AllReadyH.cons (i := 10) rfl (fun K hK => ?_) AllReadyH.nil
          go_simp
          refine (hI6).mono ?_
          rintro e w7 ⟨v7, rfl, o7, b7, t7⟩
          obtain ⟨va7, vc7, e7, -, -⟩ := og_is encH_ok o7
          subst e7
          obtain ⟨hA7, hB7, hC7, hD7⟩ := HE6.out _ w7 o7 b7 t7
          have HA7 := hid hA7
          have HB7 := hid hB7
          have hS := hC7
          clear o7 b7 t7 hI6 hA7 hB7 hC7
          clear hHeld
          show K _ _
          refine hK.out _ _ (hS) (fun hHeld => ?_)
          clear hK K
          try simp only [List.getElem_toArray, List.getElem_cons_zero, List.getElem_cons_succ, Act.put, List.setIfInBounds_toArray, List.set_cons_zero, List.set_cons_succ]
          refine wpAnyH_take (i := 11) (v := .pointer (some ⟨X, 0, none⟩)) rfl (by kernel_rfl) (by kernel_rfl) (by kernel_rfl) (fun _ _ _ h => h) (Or.inl ⟨by rfl, fun w hSw => by (try dsimp only at hSw); go_simp⟩) (by assumption) ?_
          try simp only [List.getElem_toArray, List.getElem_cons_zero, List.getElem_cons_succ, Act.put, List.setIfInBounds_toArray, List.set_cons_zero, List.set_cons_succ]
          refine wpAnyH_take (i := 12) (v := .pointer (some ⟨X, 1, none⟩)) rfl (by kernel_rfl) (by kernel_rfl) (by kernel_rfl) (fun _ _ _ h => h) (Or.inl ⟨by rfl, fun w hSw => by (try dsimp only at hSw); go_simp⟩) (by assumption) ?_
          try simp only [List.getElem_toArray, List.getElem_cons_zero, List.getElem_cons_succ, Act.put, List.setIfInBounds_toArray, List.set_cons_zero, List.set_cons_succ]
          refine wpAnyH_ready (rs := [13]) (by kernel_rfl) (by simp) ?_
          refine AllReadyH.cons (i := 13) rfl (fun K hK => ?_) AllReadyH.nil
          obtain ⟨q7, qf⟩ := hD7
          go_simp
          have hS := HB7.out
          clear hHeld
          show K _ _
          refine hK.out _ _ (hS) (fun hHeld => ?_)
          clear hK K
          try simp only [List.getElem_toArray, List.getElem_cons_zero, List.getElem_cons_succ, Act.put, List.setIfInBounds_toArray, List.set_cons_zero, List.set_cons_succ]
          refine wpAnyH_done (by kernel_rfl) ?_ _
          refine NoPanic.normal ?_
          clear hHeld hS
          go_wp2_with fail
          go_ret
          exact HA7.out
        refine AllReadyH.cons (i := 7) rfl (fun K hK => ?_) AllReadyH.nil
        go_simp
        refine (HFr.out wd).mono ?_
        rintro e w6 ⟨rfl, k6⟩
        have HK6 := hid (kept_trans HKd.out k6)
        obtain ⟨hS, hX6, hX6a, hSa, hI6, hE6⟩ := HIns.out w6 HK6.out
        have HSa := hid hSa
        have HE6 := hid hE6
        clear k6 hSa hE6
        clear hHeld
        show K _ _
        refine hK.out _ _ (hS) (fun hHeld => ?_)
        clear hK K
        try simp only [List.getElem_toArray, List.getElem_cons_zero, List.getElem_cons_succ, Act.put, List.setIfInBounds_toArray, List.set_cons_zero, List.set_cons_succ]
        refine wpAnyH_take (i := 8) (v := .agg #[.string r.key, .int .u64 r.s.p, .int .u32 r.s.l, .int .u8 r.s.n, .int .u8 r.kind, .int .u32 r.flags, .int .u64 r.exp, .string r.body, .int .u64 0]) rfl (by kernel_rfl) (by kernel_rfl) (by kernel_rfl) (fun _ _ _ h => h) (Or.inl ⟨by rfl, fun w hSw => by (try dsimp only at hSw); go_simp⟩) (by assumption) ?_
        try simp only [List.getElem_toArray, List.getElem_cons_zero, List.getElem_cons_succ, Act.put, List.setIfInBounds_toArray, List.set_cons_zero, List.set_cons_succ]
        refine wpAnyH_ready (rs := [4, 9]) (by kernel_rfl) (by simp) ?_
        refine AllReadyH.cons (i := 4) rfl (fun K hK => ?_) ?_
        · go_simp
          clear hHeld
          show K _ _
          refine hK.out _ _ (hS) (fun hHeld => ?_)
          clear hK K
          try simp only [List.getElem_toArray, List.getElem_cons_zero, List.getElem_cons_succ, Act.put, List.setIfInBounds_toArray, List.set_cons_zero, List.set_cons_succ]
          refine wpAnyH_ready (rs := [9]) (by kernel_rfl) (by simp) ?_
          refine AllReadyH.cons (i := 9) rfl (fun K hK => ?_) AllReadyH.nil
          go_simp
          have hS := HSa.out
          clear hHeld
          show K _ _
          refine hK.out _ _ (hS) (fun hHeld => ?_)
          clear hK K
          try simp only [List.getElem_toArray, List.getElem_cons_zero, List.getElem_cons_succ, Act.put, List.setIfInBounds_toArray, List.set_cons_zero, List.set_cons_succ]
          refine wpAnyH_ready (rs := [10]) (by kernel_rfl) (by simp) ?_
          refine AllReadyH.cons (i := 10) rfl (fun K hK => ?_) AllReadyH.nil
          go_simp
          refine (hI6).mono ?_
          rintro e w7 ⟨v7, rfl, o7, b7, t7⟩
          obtain ⟨va7, vc7, e7, -, -⟩ := og_is encH_ok o7
          subst e7
          obtain ⟨hA7, hB7, hC7, hD7⟩ := HE6.out _ w7 o7 b7 t7
          have HA7 := hid hA7
          have HB7 := hid hB7
          have hS := hC7
          clear o7 b7 t7 hI6 hA7 hB7 hC7
          clear hHeld
          show K _ _
          refine hK.out _ _ (hS) (fun hHeld => ?_)
          clear hK K
          try simp only [List.getElem_toArray, List.getElem_cons_zero, List.getElem_cons_succ, Act.put, List.setIfInBounds_toArray, List.set_cons_zero, List.set_cons_succ]
          refine wpAnyH_take (i := 11) (v := .pointer (some ⟨X, 0, none⟩)) rfl (by kernel_rfl) (by kernel_rfl) (by kernel_rfl) (fun _ _ _ h => h) (Or.inl ⟨by rfl, fun w hSw => by (try dsimp only at hSw); go_simp⟩) (by assumption) ?_
          try simp only [List.getElem_toArray, List.getElem_cons_zero, List.getElem_cons_succ, Act.put, List.setIfInBounds_toArray, List.set_cons_zero, List.set_cons_succ]
          refine wpAnyH_take (i := 12) (v := .pointer (some ⟨X, 1, none⟩)) rfl (by kernel_rfl) (by kernel_rfl) (by kernel_rfl) (fun _ _ _ h => h) (Or.inl ⟨by rfl, fun w hSw => by (try dsimp only at hSw); go_simp⟩) (by assumption) ?_
          try simp only [List.getElem_toArray, List.getElem_cons_zero, List.getElem_cons_succ, Act.put, List.setIfInBounds_toArray, List.set_cons_zero, List.set_cons_succ]
          refine wpAnyH_ready (rs := [13]) (by kernel_rfl) (by simp) ?_
          refine AllReadyH.cons (i := 13) rfl (fun K hK => ?_) AllReadyH.nil
          obtain ⟨q7, qf⟩ := hD7
          go_simp
          have hS := HB7.out
          clear hHeld
          show K _ _
          refine hK.out _ _ (hS) (fun hHeld => ?_)
          clear hK K
          try simp only [List.getElem_toArray, List.getElem_cons_zero, List.getElem_cons_succ, Act.put, List.setIfInBounds_toArray, List.set_cons_zero, List.set_cons_succ]
          refine wpAnyH_done (by kernel_rfl) ?_ _
          refine NoPanic.normal ?_
          clear hHeld hS
          go_wp2_with fail
          go_ret
          exact HA7.out
        refine AllReadyH.cons (i := 9) rfl (fun K hK => ?_) AllReadyH.nil
        go_simp
        have hS := HSa.out
        clear hHeld
        show K _ _
        refine hK.out _ _ (hS) (fun hHeld => ?_)
        clear hK K
        try simp only [List.getElem_toArray, List.getElem_cons_zero, List.getElem_cons_succ, Act.put, List.setIfInBounds_toArray, List.set_cons_zero, List.set_cons_succ]
        refine wpAnyH_ready (rs := [4]) (by kernel_rfl) (by simp) ?_
        refine AllReadyH.cons (i := 4) rfl (fun K hK => ?_) AllReadyH.nil
        go_simp
        have hS := HSa.out
        clear hHeld
        show K _ _
        refine hK.out _ _ (hS) (fun hHeld => ?_)
        clear hK K
        try simp only [List.getElem_toArray, List.getElem_cons_zero, List.getElem_cons_succ, Act.put, List.setIfInBounds_toArray, List.set_cons_zero, List.set_cons_succ]
        refine wpAnyH_ready (rs := [10]) (by kernel_rfl) (by simp) ?_
        refine AllReadyH.cons (i := 10) rfl (fun K hK => ?_) AllReadyH.nil
        go_simp
        refine (hI6).mono ?_
        rintro e w7 ⟨v7, rfl, o7, b7, t7⟩
        obtain ⟨va7, vc7, e7, -, -⟩ := og_is encH_ok o7
        subst e7
        obtain ⟨hA7, hB7, hC7, hD7⟩ := HE6.out _ w7 o7 b7 t7
        have HA7 := hid hA7
        have HB7 := hid hB7
        have hS := hC7
        clear o7 b7 t7 hI6 hA7 hB7 hC7
        clear hHeld
        show K _ _
        refine hK.out _ _ (hS) (fun hHeld => ?_)
        clear hK K
        try simp only [List.getElem_toArray, List.getElem_cons_zero, List.getElem_cons_succ, Act.put, List.setIfInBounds_toArray, List.set_cons_zero, List.set_cons_succ]
        refine wpAnyH_take (i := 11) (v := .pointer (some ⟨X, 0, none⟩)) rfl (by kernel_rfl) (by kernel_rfl) (by kernel_rfl) (fun _ _ _ h => h) (Or.inl ⟨by rfl, fun w hSw => by (try dsimp only at hSw); go_simp⟩) (by assumption) ?_
        try simp only [List.getElem_toArray, List.getElem_cons_zero, List.getElem_cons_succ, Act.put, List.setIfInBounds_toArray, List.set_cons_zero, List.set_cons_succ]
        refine wpAnyH_take (i := 12) (v := .pointer (some ⟨X, 1, none⟩)) rfl (by kernel_rfl) (by kernel_rfl) (by kernel_rfl) (fun _ _ _ h => h) (Or.inl ⟨by rfl, fun w hSw => by (try dsimp only at hSw); go_simp⟩) (by assumption) ?_
        try simp only [List.getElem_toArray, List.getElem_cons_zero, List.getElem_cons_succ, Act.put, List.setIfInBounds_toArray, List.set_cons_zero, List.set_cons_succ]
        refine wpAnyH_ready (rs := [13]) (by kernel_rfl) (by simp) ?_
        refine AllReadyH.cons (i := 13) rfl (fun K hK => ?_) AllReadyH.nil
        obtain ⟨q7, qf⟩ := hD7
        go_simp
        have hS := HB7.out
        clear hHeld
        show K _ _
        refine hK.out _ _ (hS) (fun hHeld => ?_)
        clear hK K
        try simp only [List.getElem_toArray, List.getElem_cons_zero, List.getElem_cons_succ, Act.put, List.setIfInBounds_toArray, List.set_cons_zero, List.set_cons_succ]
        refine wpAnyH_done (by kernel_rfl) ?_ _
        refine NoPanic.normal ?_
        clear hHeld hS
        go_wp2_with fail
        go_ret
        exact HA7.out
end Go.Proofs.Ytahgplfkgijecaa
