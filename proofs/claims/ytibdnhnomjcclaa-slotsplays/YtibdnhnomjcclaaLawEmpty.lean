/- The law that a table whose keys were all dropped is as a new one, walked: it answers true and turns nothing that was there. -/
import Derived.Test.YtibdnhnomjcclaaSame
namespace Go.Proofs.Ytibdnhnomjcclaa
open Go.ChangeShapes Go.WideShapes Go.ChangeAt Go.RowKit
set_option linter.unusedVariables false
set_option linter.unusedSimpArgs false

/- Two tables beside each other. -/
def Apart (X R Y Q : Nat) : Prop := Y ≠ X ∧ Y ≠ R ∧ Q ≠ X ∧ Q ≠ R
theorem apart_symm {X R Y Q : Nat} (h : Apart X R Y Q) : Apart Y Q X R := ⟨Ne.symm h.1, Ne.symm h.2.2.1, Ne.symm h.2.1, Ne.symm h.2.2.2⟩
section
variable {w w' : World} {X R Y Q m most : Nat} {L : Tb}
theorem good_turns (g : Good w Y Q m most L) (t : Turns X R w w') (h : Apart X R Y Q) : Good w' Y Q m most L :=
  ⟨⟨at_turns g.tab.1 t h.1 h.2.1, row_turns g.tab.2 t h.2.2.1 h.2.2.2⟩, g.ok, g.some, g.fit, g.full, g.low, g.small⟩
theorem good_lt (g : Good w X R m most L) : X < w.heap.size ∧ R < w.heap.size := ⟨at_lt g.tab.1, row_lt g.tab.2⟩
theorem row_ne {P T U : Nat} {cs : Array Value} (h : At w P cs T) (g : RowT w U R m L) (hn : T ≠ U) : P ≠ R := by
  obtain ⟨ds, hr, _⟩ := g
  exact at_ne h hr hn
theorem cells_op {P : Nat} {a b c : Value} (h : At w P #[a, b, c] 35) : w.cell? ⟨P, 1, none⟩ = some b ∧ w.cell? ⟨P, 2, none⟩ = some c := ⟨at_cell h 1, at_cell h 2⟩
theorem all_empty (ok : Ok (hm m) m L) (h : cnt L m = 0) : L = fun _ => no := by
  funext i
  by_cases hi : i < m
  · exact ok.clean i (cnt_zero h i hi)
  · exact ok.clean i (ok.out i (by omega))
end
theorem take_mem {K : List ByteArray} (hd : K.Nodup) (j : Nat) (hj : j < K.length) : K[j] ∉ K.take j := by
  intro h
  obtain ⟨i, hi, e⟩ := List.getElem_of_mem h
  rw [List.getElem_take] at e
  have hi2 : i < j := by simp at hi; omega
  exact absurd ((List.getElem_inj hd).1 e) (by omega)
set_option maxHeartbeats 3200000 in
set_option maxRecDepth 100000 in
theorem empty_walk (a : Int) (oa : Option Addr) (len cap b o : Nat) (S : Nat → Opx) (ob : Option Addr) (len2 cap2 b2 o2 : Nat) (S2 : Nat → Opx) (w : World) (wa : (Lit.int .u16 a).wf = true) (hr : Row w oa len cap b o S) (hr2 : Row w ob len2 cap2 b2 o2 S2) :
    Calls Try.prog 7 #[.int .u16 a, .slice oa len cap, .slice ob len2 cap2] w fun e w' => e = .returned (.bool true) ∧ Kept w w' := by
  have hz := zero35
  obtain ⟨ha0, ha1⟩ := bounds_u16 wa
  obtain ⟨N, rfl⟩ := Int.eq_ofNat_of_zero_le ha0
  obtain ⟨k, hk⟩ : ∃ k : Nat, 1 + (N : Int) % 100 = (k : Int) ∧ 1 ≤ k ∧ k ≤ 1024 := ⟨1 + N % 100, by omega, by omega, by omega⟩
  obtain ⟨hk, hk1, hk2⟩ := hk
  have HR := hid hr
  have HR2 := hid hr2
  clear wa hr hr2
  go_enter Try.func7, Try.ntmps7
  go_wp2_with fail
  refine (new_any k hk1 hk2 _).mono ?_
  rintro e w1 ⟨Xt, Rt, m, rfl, z1, hX, hR, k1, g1⟩
  have HXt := hid hX
  have HRt := hid hR
  have HZ := hid z1
  have HG1 := hid g1
  have HK1 := hid k1
  clear hX hR z1 g1 k1
  go_wp2_with fail
  refine (new_any k hk1 hk2 _).mono ?_
  rintro e w2 ⟨Xu, Ru, m2, rfl, z2, hX, hR, k2, g2⟩
  obtain rfl : m = m2 := size_one HZ.out z2
  have HXu := hid (Nat.le_trans HK1.out.2 hX)
  have HRu := hid (Nat.le_trans HK1.out.2 hR)
  have HAp : Hid (Apart Xt Rt Xu Ru) := hid (by have := good_lt HG1.out; unfold Apart; omega)
  have HAq := hid (apart_symm HAp.out)
  have HGt := hid (good_kept HG1.out k2)
  have HGu := hid g2
  have HK2 := hid (kept_trans HK1.out k2)
  have h4 := HZ.out.low
  clear hX hR z2 g2 k2 HG1 HK1 HZ
  go_wp2_with fail
  refine (fixed_any _).mono ?_
  rintro e w3 ⟨rfl, k3⟩
  replace HGt := hid (good_kept HGt.out k3)
  replace HGu := hid (good_kept HGu.out k3)
  have HK3 := hid (kept_trans HK2.out k3)
  clear HK2 k3
  go_wp2_with fail
  refine (cut_any oa len cap b o S _ (ops_kept HR.out HK3.out)).mono ?_
  rintro e w4 ⟨n1, rfl, hn1, hn2, hs, k4⟩
  replace HGt := hid (good_kept HGt.out k4)
  replace HGu := hid (good_kept HGu.out k4)
  have HK4 := hid (kept_trans HK3.out k4)
  have HR1 := hid (ops_less HR.out hn1)
  have HS1 := hid hs
  clear HK3 k4 HR hn1 hs
  go_wp2_with fail
  go_loopw [45] (fun i wr => ∃ (j : Nat) (L : Tb), j ≤ n1 ∧ i = .int .i64 j ∧ Hid (Good wr Xt Rt m k L) ∧ Hid (Good wr Xu Ru m k (fun _ => no)) ∧ Hid (Kept w wr)) (fun i _ => n1 - (intOf i).toNat)
  case atStart => exact ⟨0, _, Nat.zero_le _, rfl, HGt, HGu, HK4⟩
  case round =>
    obtain ⟨j, L, hj, rfl, HGT, HGU, HKr⟩ := hrel
    clear HGt HGu HK4
    by_cases hlt : j < n1
    · obtain ⟨rfl, hb⟩ := HR1.out.2.2.2.1 (by omega)
      obtain ⟨ks, c0, c1, c2⟩ := (ops_kept HR1.out HKr.out).2.2.2.2.1 j hlt
      have hs := HS1.out j hlt
      go_wp2_with fail
      refine (set_any (S j).key (by omega) (S j).v _ (good_alloc HGT.out _)).mono ?_
      rintro e w5 ⟨rfl, t5, g5⟩
      have HKn := hid (kept_turns (kept_alloc HKr.out _) HXt.out HRt.out t5)
      have HGn := hid (good_turns (good_alloc HGU.out _) t5 HAp.out)
      have HGm := hid g5
      clear t5 g5 c0 c1 c2
      go_wp2_with fail
      go_roundw
      case rel => exact ⟨j + 1, _, by omega, by go_num, HGm, HGn, HKn⟩
      case measure => simp [intOf]; omega
    · clear HR1 HS1
      go_wp2_with fail
      refine (keys_any h4 HGT.out.small _ HGT.out.tab).mono ?_
      rintro e w5 ⟨v, rfl, hv, k5⟩
      replace HGT := hid (good_kept HGT.out k5)
      replace HGU := hid (good_kept HGU.out k5)
      have HK5 := hid (kept_trans HKr.out k5)
      obtain ⟨va, vc, rfl, hvc⟩ := own_slice hv
      have HV := hid hv
      have HN := hid (keysOf_length L m)
      have HD := hid (keysOf_nodup HGT.out.ok m)
      have HM : Hid (∀ q, q ∈ keysOf L m → ∃ x, mp m L q = some x) := hid (fun q hq => by
        obtain ⟨i, hi, g⟩ := (keysOf_mem L m q).1 hq
        cases e : mp m L q with
        | none => exact absurd g ((mp_none HGT.out.ok HGT.out.free q).1 e i)
        | some x => exact ⟨x, rfl⟩)
      have hc4 := cnt_le L m
      generalize hKK : keysOf L m = KK at *
      generalize hcc : cnt L m = c at *
      have HC := hid hcc
      clear hcc hKK hvc hv k5 HKr hlt
      go_wp2_with fail
      obtain ⟨wk, hwk⟩ : ∃ x, x = wr := ⟨_, rfl⟩
      subst hwk
      go_loopw [59] (fun i wr => ∃ (j : Nat) (L2 : Tb), j ≤ c ∧ i = .int .i64 j ∧ Hid (Good wr Xt Rt m k L2) ∧ Hid (Good wr Xu Ru m k (fun _ => no)) ∧ Hid (Kept w wr) ∧ Hid (wr.ownsRow wk.heap.size 9 1 (.slice va c vc) c (KK.map Value.string)) ∧ Hid (cnt L2 m + j = c) ∧ Hid (∀ q, q ∉ KK.take j → mp m L2 q = mp m L q)) (fun i _ => c - (intOf i).toNat)
      case atStart => exact ⟨0, L, Nat.zero_le _, rfl, HGT, HGU, HK5, HV, hid (by rw [HC.out]; rfl), hid (fun _ _ => rfl)⟩
      case round =>
        obtain ⟨j, L2, hj, rfl, HG2, HH2, HKr, HVr, HCn, HMp⟩ := hrel
        clear HGT HGU HK5 HV
        by_cases hlt : j < c
        · have hjl : j < KK.length := by rw [HN.out]; exact hlt
          obtain ⟨va2, vc2, e2, hcell⟩ := own_slice HVr.out
          injection e2 with e2 _ e3
          subst e2 e3
          obtain ⟨g, rfl, hcl⟩ := hcell (by omega)
          have c0 := hcl j (.string KK[j]) (by simp [hjl])
          have HX : Hid (∃ x, mp m L2 KK[j] = some x) := hid (by
            rw [HMp.out _ (take_mem HD.out j hjl)]
            exact HM.out _ (List.getElem_mem hjl))
          have HT : Hid (KK.take (j + 1) = KK.take j ++ [KK[j]]) := hid (List.take_succ_eq_append_getElem hjl)
          generalize KK[j] = x at *
          have hxs : x.size ≤ maxLen := by
            obtain ⟨y, hy⟩ := HX.out
            obtain ⟨i, hi⟩ := (mp_some HG2.out.ok HG2.out.free x y).1 hy
            have := HG2.out.small i
            rw [hi] at this
            unfold maxLen; simp only at this; omega
          clear hcell hcl
          go_wp2_with fail
          refine (drop_any x hxs _ HG2.out).mono ?_
          rintro e w6 ⟨rfl, t6, g6⟩
          have e6 : (dropT (hm m) m L2 x).1 = true := by rw [drop_told]; obtain ⟨y, hy⟩ := HX.out; rw [hy]; rfl
          rw [e6]
          have HKn := hid (kept_turns HKr.out HXt.out HRt.out t6)
          have HHn := hid (good_turns HH2.out t6 HAp.out)
          have HVn := hid (own_turns HVr.out HG2.out.tab t6)
          have HCm : Hid (cnt (dropT (hm m) m L2 x).2 m + (j + 1) = c) := hid (by
            have h1 := drop_cnt (k := x) HG2.out
            obtain ⟨y, hy⟩ := HX.out
            rw [hy] at h1
            have h2 := HCn.out
            simp at h1
            omega)
          have HMn : Hid (∀ q, q ∉ KK.take (j + 1) → mp m (dropT (hm m) m L2 x).2 q = mp m L q) := hid (fun q hq => by
            rw [HT.out, List.mem_append, List.mem_singleton] at hq
            rw [drop_mp HG2.out g6 q, if_neg (fun e => hq (.inr e)), HMp.out q (fun e => hq (.inl e))])
          have HGn := hid g6
          generalize (dropT (hm m) m L2 x).2 = L3 at *
          clear t6 g6 e6 c0
          go_wp2_with fail
          go_roundw
          case rel => exact ⟨j + 1, L3, by omega, by go_num, HGn, HHn, HKn, HVn, HCm, HMn⟩
          case measure => simp [intOf]; omega
        · have hje : j = c := by omega
          have h0 : cnt L2 m = 0 := by have := HCn.out; omega
          have hL := all_empty HG2.out.ok h0
          subst hL
          clear HVr HCn HMp h0 hje HM HD HN HC
          have HTb := HG2.out.tab
          rw [cnt_new] at HTb
          have HTb := hid HTb
          go_wp2_with fail
          refine (len_any _ HTb.out).mono ?_
          rintro e w6 ⟨rfl, rfl⟩
          go_wp2_with fail
          refine (keys_any h4 HG2.out.small _ HG2.out.tab).mono ?_
          rintro e w7 ⟨v7, rfl, hv7, k7⟩
          rw [cnt_new] at hv7
          obtain ⟨v7a, v7c, rfl, -⟩ := own_slice hv7
          have HGT := hid (good_kept HG2.out k7)
          have HGU := hid (good_kept HH2.out k7)
          have HK7 := hid (kept_trans HKr.out k7)
          clear hv7 k7 HG2 HH2 HKr HTb
          go_wp2_with fail
          refine (cut_any ob len2 cap2 b2 o2 S2 _ (ops_kept HR2.out HK7.out)).mono ?_
          rintro e w8 ⟨n3, rfl, hn3, hn4, hs, k8⟩
          replace HGT := hid (good_kept HGT.out k8)
          replace HGU := hid (good_kept HGU.out k8)
          have HK8 := hid (kept_trans HK7.out k8)
          have HR3 := hid (ops_less HR2.out hn3)
          have HS3 := hid hs
          clear HK7 k8 HR2 hn3 hs
          go_wp2_with fail
          clear hlt
          go_loopw [80] (fun i wr => ∃ (j : Nat) (L : Tb), j ≤ n3 ∧ i = .int .i64 j ∧ Hid (Good wr Xt Rt m k L) ∧ Hid (Good wr Xu Ru m k L) ∧ Hid (Kept w wr)) (fun i _ => n3 - (intOf i).toNat)
          case atStart => exact ⟨0, _, Nat.zero_le _, rfl, HGT, HGU, HK8⟩
          case round =>
            clear HGT HGU HK8
            obtain ⟨j, L, hj, rfl, HGT, HGU, HKr⟩ := hrel
            by_cases hlt : j < n3
            · obtain ⟨rfl, hb⟩ := HR3.out.2.2.2.1 (by omega)
              obtain ⟨ks, c0, c1, c2⟩ := (ops_kept HR3.out HKr.out).2.2.2.2.1 j hlt
              have hs := HS3.out j hlt
              generalize S2 j = s at *
              have hs : s.key.size ≤ 1000 := by omega
              have hsm : s.key.size ≤ maxLen := ks
              have HP := hid (at_drew (at_new wr #[.int .i64 s.kind, .int .i64 s.v, .string s.key] 35))
              replace HGT := hid (good_kept HGT.out (kept_drew (kept_alloc (kept_refl _) (.cells #[.int .i64 s.kind, .int .i64 s.v, .string s.key] 35))))
              replace HGU := hid (good_kept HGU.out (kept_drew (kept_alloc (kept_refl _) (.cells #[.int .i64 s.kind, .int .i64 s.v, .string s.key] 35))))
              replace HKr := hid (kept_drew (kept_alloc HKr.out (.cells #[.int .i64 s.kind, .int .i64 s.v, .string s.key] 35)))
              go_wp2_with fail
              generalize wr.alloc (.cells #[.int .i64 s.kind, .int .i64 s.v, .string s.key] 35) = wq at *
              generalize wr.heap.size = P at *
              clear c0 c1 c2 hb ks
              have hS := cells_op HP.out
              refine wp_region_noPanic ?_
              refine wp_region_held_drew (S := (fun w' => w'.cell? ⟨P, 1, none⟩ = some (.int .i64 s.v) ∧ w'.cell? ⟨P, 2, none⟩ = some (.string s.key))) (by kernel_rfl) (by assumption) (fun hHeld => ?_)
              generalize wq.drew = wd at *
              refine wpAnyH_take (i := 0) (v := .pointer (some ⟨Xt, 0, none⟩)) rfl (by kernel_rfl) (by kernel_rfl) (by kernel_rfl) (fun _ _ _ h => h) (Or.inl ⟨by rfl, fun w hSw => by (try dsimp only at hSw); go_simp⟩) (by assumption) ?_
              try simp only [List.getElem_toArray, List.getElem_cons_zero, List.getElem_cons_succ, Act.put, List.setIfInBounds_toArray, List.set_cons_zero, List.set_cons_succ]
              refine wpAnyH_take (i := 1) (v := .pointer (some ⟨P, 2, none⟩)) rfl (by kernel_rfl) (by kernel_rfl) (by kernel_rfl) (fun _ _ _ h => h) (Or.inl ⟨by rfl, fun w hSw => by (try dsimp only at hSw); go_simp⟩) (by assumption) ?_
              try simp only [List.getElem_toArray, List.getElem_cons_zero, List.getElem_cons_succ, Act.put, List.setIfInBounds_toArray, List.set_cons_zero, List.set_cons_succ]
              refine wpAnyH_take (i := 2) (v := .string s.key) rfl (by kernel_rfl) (by kernel_rfl) (by kernel_rfl) (fun _ _ _ h => h) (Or.inl ⟨by rfl, fun w hSw => by (try dsimp only at hSw); go_simp⟩) (by assumption) ?_
              try simp only [List.getElem_toArray, List.getElem_cons_zero, List.getElem_cons_succ, Act.put, List.setIfInBounds_toArray, List.set_cons_zero, List.set_cons_succ]
              refine wpAnyH_take (i := 3) (v := .pointer (some ⟨P, 1, none⟩)) rfl (by kernel_rfl) (by kernel_rfl) (by kernel_rfl) (fun _ _ _ h => h) (Or.inl ⟨by rfl, fun w hSw => by (try dsimp only at hSw); go_simp⟩) (by assumption) ?_
              try simp only [List.getElem_toArray, List.getElem_cons_zero, List.getElem_cons_succ, Act.put, List.setIfInBounds_toArray, List.set_cons_zero, List.set_cons_succ]
              refine wpAnyH_take (i := 4) (v := .int .i64 s.v) rfl (by kernel_rfl) (by kernel_rfl) (by kernel_rfl) (fun _ _ _ h => h) (Or.inl ⟨by rfl, fun w hSw => by (try dsimp only at hSw); go_simp⟩) (by assumption) ?_
              try simp only [List.getElem_toArray, List.getElem_cons_zero, List.getElem_cons_succ, Act.put, List.setIfInBounds_toArray, List.set_cons_zero, List.set_cons_succ]
              refine wpAnyH_take (i := 6) (v := .pointer (some ⟨Xu, 0, none⟩)) rfl (by kernel_rfl) (by kernel_rfl) (by kernel_rfl) (fun _ _ _ h => h) (Or.inl ⟨by rfl, fun w hSw => by (try dsimp only at hSw); go_simp⟩) (by assumption) ?_
              try simp only [List.getElem_toArray, List.getElem_cons_zero, List.getElem_cons_succ, Act.put, List.setIfInBounds_toArray, List.set_cons_zero, List.set_cons_succ]
              refine wpAnyH_take (i := 7) (v := .pointer (some ⟨P, 2, none⟩)) rfl (by kernel_rfl) (by kernel_rfl) (by kernel_rfl) (fun _ _ _ h => h) (Or.inl ⟨by rfl, fun w hSw => by (try dsimp only at hSw); go_simp⟩) (by assumption) ?_
              try simp only [List.getElem_toArray, List.getElem_cons_zero, List.getElem_cons_succ, Act.put, List.setIfInBounds_toArray, List.set_cons_zero, List.set_cons_succ]
              refine wpAnyH_take (i := 8) (v := .string s.key) rfl (by kernel_rfl) (by kernel_rfl) (by kernel_rfl) (fun _ _ _ h => h) (Or.inl ⟨by rfl, fun w hSw => by (try dsimp only at hSw); go_simp⟩) (by assumption) ?_
              try simp only [List.getElem_toArray, List.getElem_cons_zero, List.getElem_cons_succ, Act.put, List.setIfInBounds_toArray, List.set_cons_zero, List.set_cons_succ]
              refine wpAnyH_take (i := 9) (v := .pointer (some ⟨P, 1, none⟩)) rfl (by kernel_rfl) (by kernel_rfl) (by kernel_rfl) (fun _ _ _ h => h) (Or.inl ⟨by rfl, fun w hSw => by (try dsimp only at hSw); go_simp⟩) (by assumption) ?_
              try simp only [List.getElem_toArray, List.getElem_cons_zero, List.getElem_cons_succ, Act.put, List.setIfInBounds_toArray, List.set_cons_zero, List.set_cons_succ]
              refine wpAnyH_take (i := 10) (v := .int .i64 s.v) rfl (by kernel_rfl) (by kernel_rfl) (by kernel_rfl) (fun _ _ _ h => h) (Or.inl ⟨by rfl, fun w hSw => by (try dsimp only at hSw); go_simp⟩) (by assumption) ?_
              try simp only [List.getElem_toArray, List.getElem_cons_zero, List.getElem_cons_succ, Act.put, List.setIfInBounds_toArray, List.set_cons_zero, List.set_cons_succ]
              refine wpAnyH_ready (rs := [5]) (by kernel_rfl) (by simp) ?_
              refine AllReadyH.cons (i := 5) rfl (fun K hK => ?_) AllReadyH.nil
              go_simp
              refine (set_any s.key hs s.v _ HGT.out).mono ?_
              rintro e1 w3 ⟨rfl, tA, gA⟩
              replace HKr := hid (kept_turns HKr.out HXt.out HRt.out tA)
              replace HP := hid (at_turns HP.out tA (at_ne HP.out HGT.out.tab.1 (by decide)) (row_ne HP.out HGT.out.tab.2 (by decide)))
              replace HGU := hid (good_turns HGU.out tA HAp.out)
              replace HGT := hid gA
              clear tA gA
              have hS := cells_op HP.out
              clear hHeld
              show K _ _
              refine hK.out _ _ (by assumption) (fun hHeld => ?_)
              clear hK K
              try simp only [List.getElem_toArray, List.getElem_cons_zero, List.getElem_cons_succ, Act.put, List.setIfInBounds_toArray, List.set_cons_zero, List.set_cons_succ]
              refine wpAnyH_ready (rs := [11]) (by kernel_rfl) (by simp) ?_
              refine AllReadyH.cons (i := 11) rfl (fun K hK => ?_) AllReadyH.nil
              go_simp
              refine (set_any s.key hs s.v _ HGU.out).mono ?_
              rintro e1 w4 ⟨rfl, tA, gA⟩
              replace HKr := hid (kept_turns HKr.out HXu.out HRu.out tA)
              replace HP := hid (at_turns HP.out tA (at_ne HP.out HGU.out.tab.1 (by decide)) (row_ne HP.out HGU.out.tab.2 (by decide)))
              replace HGT := hid (good_turns HGT.out tA HAq.out)
              replace HGU := hid gA
              clear tA gA
              have hS := cells_op HP.out
              clear hHeld
              show K _ _
              refine hK.out _ _ (by assumption) (fun hHeld => ?_)
              clear hK K
              try simp only [List.getElem_toArray, List.getElem_cons_zero, List.getElem_cons_succ, Act.put, List.setIfInBounds_toArray, List.set_cons_zero, List.set_cons_succ]
              generalize setT (hm m) m k L s.key s.v = E at *
              refine wpAnyH_take (i := 12) (v := .bool false) rfl (by kernel_rfl) (by kernel_rfl) (by kernel_rfl) (fun _ _ _ h => h) (Or.inl ⟨by rfl, fun w hSw => by (try dsimp only at hSw); go_simp⟩) (by assumption) ?_
              try simp only [List.getElem_toArray, List.getElem_cons_zero, List.getElem_cons_succ, Act.put, List.setIfInBounds_toArray, List.set_cons_zero, List.set_cons_succ]
              refine wpAnyH_take (i := 13) (v := .bool false) rfl (by kernel_rfl) (by kernel_rfl) (by kernel_rfl) (fun _ _ _ h => h) (Or.inl ⟨by rfl, fun w hSw => by (try dsimp only at hSw); go_simp⟩) (by assumption) ?_
              try simp only [List.getElem_toArray, List.getElem_cons_zero, List.getElem_cons_succ, Act.put, List.setIfInBounds_toArray, List.set_cons_zero, List.set_cons_succ]
              refine wpAnyH_take (i := 14) (v := .pointer (some ⟨Xt, 0, none⟩)) rfl (by kernel_rfl) (by kernel_rfl) (by kernel_rfl) (fun _ _ _ h => h) (Or.inl ⟨by rfl, fun w hSw => by (try dsimp only at hSw); go_simp⟩) (by assumption) ?_
              try simp only [List.getElem_toArray, List.getElem_cons_zero, List.getElem_cons_succ, Act.put, List.setIfInBounds_toArray, List.set_cons_zero, List.set_cons_succ]
              refine wpAnyH_take (i := 15) (v := .pointer (some ⟨P, 2, none⟩)) rfl (by kernel_rfl) (by kernel_rfl) (by kernel_rfl) (fun _ _ _ h => h) (Or.inl ⟨by rfl, fun w hSw => by (try dsimp only at hSw); go_simp⟩) (by assumption) ?_
              try simp only [List.getElem_toArray, List.getElem_cons_zero, List.getElem_cons_succ, Act.put, List.setIfInBounds_toArray, List.set_cons_zero, List.set_cons_succ]
              refine wpAnyH_take (i := 16) (v := .string s.key) rfl (by kernel_rfl) (by kernel_rfl) (by kernel_rfl) (fun _ _ _ h => h) (Or.inl ⟨by rfl, fun w hSw => by (try dsimp only at hSw); go_simp⟩) (by assumption) ?_
              try simp only [List.getElem_toArray, List.getElem_cons_zero, List.getElem_cons_succ, Act.put, List.setIfInBounds_toArray, List.set_cons_zero, List.set_cons_succ]
              refine wpAnyH_take (i := 18) (v := .pointer (some ⟨Xu, 0, none⟩)) rfl (by kernel_rfl) (by kernel_rfl) (by kernel_rfl) (fun _ _ _ h => h) (Or.inl ⟨by rfl, fun w hSw => by (try dsimp only at hSw); go_simp⟩) (by assumption) ?_
              try simp only [List.getElem_toArray, List.getElem_cons_zero, List.getElem_cons_succ, Act.put, List.setIfInBounds_toArray, List.set_cons_zero, List.set_cons_succ]
              refine wpAnyH_take (i := 19) (v := .pointer (some ⟨P, 2, none⟩)) rfl (by kernel_rfl) (by kernel_rfl) (by kernel_rfl) (fun _ _ _ h => h) (Or.inl ⟨by rfl, fun w hSw => by (try dsimp only at hSw); go_simp⟩) (by assumption) ?_
              try simp only [List.getElem_toArray, List.getElem_cons_zero, List.getElem_cons_succ, Act.put, List.setIfInBounds_toArray, List.set_cons_zero, List.set_cons_succ]
              refine wpAnyH_take (i := 20) (v := .string s.key) rfl (by kernel_rfl) (by kernel_rfl) (by kernel_rfl) (fun _ _ _ h => h) (Or.inl ⟨by rfl, fun w hSw => by (try dsimp only at hSw); go_simp⟩) (by assumption) ?_
              try simp only [List.getElem_toArray, List.getElem_cons_zero, List.getElem_cons_succ, Act.put, List.setIfInBounds_toArray, List.set_cons_zero, List.set_cons_succ]
              refine wpAnyH_ready (rs := [17]) (by kernel_rfl) (by simp) ?_
              refine AllReadyH.cons (i := 17) rfl (fun K hK => ?_) AllReadyH.nil
              go_simp
              refine (slot_any s.key hsm _ HGT.out).mono ?_
              rintro e1 w5 ⟨rfl, kA⟩
              replace HKr := hid (kept_trans HKr.out kA)
              replace HP := hid (at_kept HP.out kA)
              replace HGT := hid (good_kept HGT.out kA)
              replace HGU := hid (good_kept HGU.out kA)
              clear kA
              have hS := cells_op HP.out
              clear hHeld
              show K _ _
              refine hK.out _ _ (by assumption) (fun hHeld => ?_)
              clear hK K
              try simp only [List.getElem_toArray, List.getElem_cons_zero, List.getElem_cons_succ, Act.put, List.setIfInBounds_toArray, List.set_cons_zero, List.set_cons_succ]
              refine wpAnyH_ready (rs := [21]) (by kernel_rfl) (by simp) ?_
              refine AllReadyH.cons (i := 21) rfl (fun K hK => ?_) AllReadyH.nil
              go_simp
              refine (slot_any s.key hsm _ HGU.out).mono ?_
              rintro e1 w6 ⟨rfl, kA⟩
              replace HKr := hid (kept_trans HKr.out kA)
              replace HP := hid (at_kept HP.out kA)
              replace HGT := hid (good_kept HGT.out kA)
              replace HGU := hid (good_kept HGU.out kA)
              clear kA
              have hS := cells_op HP.out
              clear hHeld
              show K _ _
              refine hK.out _ _ (by assumption) (fun hHeld => ?_)
              clear hK K
              try simp only [List.getElem_toArray, List.getElem_cons_zero, List.getElem_cons_succ, Act.put, List.setIfInBounds_toArray, List.set_cons_zero, List.set_cons_succ]
              refine wpAnyH_take (i := 22) (v := .bool false) rfl (by kernel_rfl) (by kernel_rfl) (by kernel_rfl) (fun _ _ _ h => h) (Or.inl ⟨by rfl, fun w hSw => by (try dsimp only at hSw); go_simp⟩) (by assumption) ?_
              try simp only [List.getElem_toArray, List.getElem_cons_zero, List.getElem_cons_succ, Act.put, List.setIfInBounds_toArray, List.set_cons_zero, List.set_cons_succ]
              refine wpAnyH_take (i := 23) (v := .bool false) rfl (by kernel_rfl) (by kernel_rfl) (by kernel_rfl) (fun _ _ _ h => h) (Or.inl ⟨by rfl, fun w hSw => by (try dsimp only at hSw); go_simp⟩) (by assumption) ?_
              try simp only [List.getElem_toArray, List.getElem_cons_zero, List.getElem_cons_succ, Act.put, List.setIfInBounds_toArray, List.set_cons_zero, List.set_cons_succ]
              refine wpAnyH_done (by kernel_rfl) ?_ _
              refine NoPanic.normal ?_
              go_wp2_with fail
              go_roundw
              case rel => exact ⟨j + 1, _, by omega, by go_num, HGT, HGU, HKr⟩
              case measure => simp [intOf]; omega
            · clear HR3 HS3
              have hc4 := cnt_le L m
              go_wp2_with fail
              refine (keys_any h4 HGT.out.small _ HGT.out.tab).mono ?_
              rintro e w9 ⟨v9, rfl, hv9, k9⟩
              have HV9 := hid hv9
              obtain ⟨va9, vc9, rfl, -⟩ := own_slice hv9
              replace HGU := hid (good_kept HGU.out k9)
              replace HKr := hid (kept_trans HKr.out k9)
              clear hv9 k9
              go_wp2_with fail
              refine (keys_any h4 HGU.out.small _ HGU.out.tab).mono ?_
              rintro e w10 ⟨v10, rfl, hv10, k10⟩
              have HV10 := hid hv10
              replace HV9 := hid (own_stays HV9.out k10)
              obtain ⟨va10, vc10, rfl, -⟩ := own_slice hv10
              replace HKr := hid (kept_trans HKr.out k10)
              clear hv10 k10
              go_wp2_with fail
              refine (same_any (keysOf L m) (cnt L m) (keysOf_length L m) (by omega) _ _ _ _ _ HV9.out HV10.out).mono ?_
              rintro e w11 ⟨rfl, k11⟩
              replace HKr := hid (kept_trans HKr.out k11)
              go_wp2_with fail
              go_ret
              exact ⟨rfl, HKr.out⟩
end Go.Proofs.Ytibdnhnomjcclaa
