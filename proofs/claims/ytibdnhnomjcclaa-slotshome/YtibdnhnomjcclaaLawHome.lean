/- The law that from each key's home up to its slot no slot is empty, and that each key has another one, walked: it answers true and turns nothing that was there. -/
import Derived.Test.YtibdnhnomjcclaaWant
import Derived.Test.YtibdnhnomjcclaaLawEmpty
import Derived.Test.YtibdnhnomjcclaaRefNew
namespace Go.Proofs.Ytibdnhnomjcclaa
open Go.ChangeShapes Go.WideShapes Go.ChangeAt Go.RowKit
set_option linter.unusedVariables false
set_option linter.unusedSimpArgs false

/- A key that is there has its slot. -/
theorem slot_has {w : World} {X R m k : Nat} {L : Tb} (g : Good w X R m k L) {x : ByteArray} {i : Nat} (h : Has L x i) : slotI m L x = (i : Int) ∧ i < m := by
  have e := spot_eq (has_found g.ok h)
  unfold slotI
  rw [e, if_pos h.1]
  exact ⟨rfl, g.ok.lt h.1⟩
set_option maxHeartbeats 3200000 in
set_option maxRecDepth 100000 in
theorem home_walk (a : Int) (oa : Option Addr) (len cap b o : Nat) (S : Nat → Opx) (w : World) (wa : (Lit.int .u16 a).wf = true) (hr : Row w oa len cap b o S) :
    Calls Try.prog 5 #[.int .u16 a, .slice oa len cap] w fun e w' => e = .returned (.bool true) ∧ Kept w w' := by
  have hz := zero35
  have hz29 := zero29
  obtain ⟨ha0, ha1⟩ := bounds_u16 wa
  obtain ⟨N, rfl⟩ := Int.eq_ofNat_of_zero_le ha0
  obtain ⟨k, hk⟩ : ∃ k : Nat, 1 + (N : Int) % 200 = (k : Int) ∧ 1 ≤ k ∧ k ≤ 1024 := ⟨1 + N % 200, by omega, by omega, by omega⟩
  obtain ⟨hk, hk1, hk2⟩ := hk
  have HRw := hid hr
  clear wa hr
  go_enter Try.func5, Try.ntmps5
  go_wp2_with fail
  refine (new_any k hk1 hk2 _).mono ?_
  rintro e w1 ⟨X, R, m, rfl, z1, hX, hR, k1, g1⟩
  have HX := hid hX
  have HR := hid hR
  have HG1 := hid g1
  have HK1 := hid k1
  have HZ := hid z1
  have h4 := z1.low
  clear hX hR z1 g1 k1
  go_wp2_with fail
  refine (refnew_any k hk1 hk2 _).mono ?_
  rintro e w2 ⟨Q, m2, rfl, z2, hQ, k2, r2⟩
  obtain rfl : m = m2 := size_one HZ.out z2
  have HG2 := hid (good_alloc (good_kept HG1.out k2) (.cells #[.slice (some ⟨Q, 0, none⟩) m m, .int .i64 (k : Int)] 29))
  have HK2 := hid (kept_alloc (kept_trans HK1.out k2) (.cells #[.slice (some ⟨Q, 0, none⟩) m m, .int .i64 (k : Int)] 29))
  have HM2 := hid (at_new w2 #[.slice (some ⟨Q, 0, none⟩) m m, .int .i64 (k : Int)] 29)
  clear z2 hQ k2 r2 HG1 HK1 HZ
  go_wp2_with fail
  generalize w2.alloc (.cells #[.slice (some ⟨Q, 0, none⟩) m m, .int .i64 (k : Int)] 29) = w3 at *
  generalize w2.heap.size = Y at *
  refine (fixed_any _).mono ?_
  rintro e w4 ⟨rfl, k4⟩
  have HG4 := hid (good_kept HG2.out k4)
  have HK4 := hid (kept_trans HK2.out k4)
  have HM4 := hid (at_kept HM2.out k4)
  clear HG2 HK2 HM2 k4
  go_wp2_with fail
  refine (cut_any oa len cap b o S _ (ops_kept HRw.out HK4.out)).mono ?_
  rintro e w5 ⟨n1, rfl, hn1, hn2, hs, k5⟩
  have HG5 := hid (good_kept HG4.out k5)
  have HK5 := hid (kept_trans HK4.out k5)
  have HM5 := hid (at_kept HM4.out k5)
  have HR1 := hid (ops_less HRw.out hn1)
  have HS1 := hid hs
  clear HG4 HK4 HM4 k5 HRw hn1 hs
  go_wp2_with fail
  go_loopw [42] (fun i wr => ∃ (j : Nat) (L : Tb), j ≤ n1 ∧ i = .int .i64 j ∧ Hid (Good wr X R m k L) ∧ Hid (Kept w wr) ∧ Hid (At wr Y #[.slice (some ⟨Q, 0, none⟩) m m, .int .i64 (k : Int)] 29)) (fun i _ => n1 - (intOf i).toNat)
  case atStart => exact ⟨0, _, Nat.zero_le _, rfl, HG5, HK5, HM5⟩
  case round =>
    obtain ⟨j, L, hj, rfl, HG, HKr, HM⟩ := hrel
    clear HG5 HK5 HM5
    by_cases hlt : j < n1
    · obtain ⟨rfl, hb⟩ := HR1.out.2.2.2.1 (by omega)
      obtain ⟨ks, c0, c1, c2⟩ := (ops_kept HR1.out HKr.out).2.2.2.2.1 j hlt
      have hs := HS1.out j hlt
      generalize S j = s at *
      have hs : s.key.size ≤ 1000 := by omega
      have hsm : s.key.size ≤ maxLen := ks
      have HGa := hid (good_alloc HG.out (.cells #[.int .i64 s.kind, .int .i64 s.v, .string s.key] 35))
      have HKa := hid (kept_alloc HKr.out (.cells #[.int .i64 s.kind, .int .i64 s.v, .string s.key] 35))
      have HMa := hid (at_alloc HM.out (.cells #[.int .i64 s.kind, .int .i64 s.v, .string s.key] 35))
      by_cases e1 : s.kind = 1
      · have f1 : (s.kind == 1) = true := by simpa using e1
        clear e1
        go_wp2_with fail
        refine (drop_any s.key hsm _ HGa.out).mono ?_
        rintro e w6 ⟨rfl, t6, g6⟩
        have HGn := hid g6
        have HKn := hid (kept_turns HKa.out HX.out HR.out t6)
        have HMn := hid (at_turns HMa.out t6 (at_ne HMa.out HGa.out.tab.1 (by decide)) (row_ne HMa.out HGa.out.tab.2 (by decide)))
        clear t6 g6 c0 c1 c2
        go_wp2_with fail
        go_roundw
        case rel => exact ⟨j + 1, _, by omega, by go_num, HGn, HKn, HMn⟩
        case measure => simp [intOf]; omega
      · have f1 : (s.kind == 1) = false := by simpa using e1
        clear e1
        go_wp2_with fail
        refine (set_any s.key hs s.v _ HGa.out).mono ?_
        rintro e w6 ⟨rfl, t6, g6⟩
        have HGn := hid g6
        have HKn := hid (kept_turns HKa.out HX.out HR.out t6)
        have HMn := hid (at_turns HMa.out t6 (at_ne HMa.out HGa.out.tab.1 (by decide)) (row_ne HMa.out HGa.out.tab.2 (by decide)))
        clear t6 g6 c0 c1 c2
        go_wp2_with fail
        go_roundw
        case rel => exact ⟨j + 1, _, by omega, by go_num, HGn, HKn, HMn⟩
        case measure => simp [intOf]; omega
    · clear HR1 HS1
      have hc4 := cnt_le L m
      have hmm := @run_makeMap Try.prog
      have HG6 := hid (good_alloc HG.out (.map #[] 0))
      have HK6 := hid (kept_alloc HKr.out (.map #[] 0))
      have HM6 := hid (at_alloc HM.out (.map #[] 0))
      have HU6 := hid (used_made wr)
      have HB := hid HKr.out.2
      clear HG HKr HM
      go_wp2_with fail
      clear hmm
      generalize wr.alloc (.map #[] 0) = w6 at *
      generalize wr.heap.size = B at *
      refine (keys_any h4 HG6.out.small _ HG6.out.tab).mono ?_
      rintro e w7 ⟨v, rfl, hv, k7⟩
      have HG7 := hid (good_kept HG6.out k7)
      have HK7 := hid (kept_trans HK6.out k7)
      have HM7 := hid (at_kept HM6.out k7)
      have HU7 := hid (used_kept HU6.out k7)
      obtain ⟨va, vc, rfl, -⟩ := own_slice hv
      have HV := hid hv
      have HN := hid (keysOf_length L m)
      have HD := hid (keysOf_nodup HG7.out.ok m)
      have HMe := hid (fun q => keysOf_mem L m q)
      generalize hKK : keysOf L m = KK at *
      have HKK := hid hKK
      generalize hcc : cnt L m = c at *
      have HC := hid hcc
      clear hcc hKK hv k7 HG6 HK6 HM6 HU6 hlt
      go_wp2_with fail
      go_loopw [64] (fun i wr => ∃ (j : Nat), j ≤ c ∧ i = .int .i64 j ∧ Hid (Good wr X R m k L) ∧ Hid (Kept w wr) ∧ Hid (At wr Y #[.slice (some ⟨Q, 0, none⟩) m m, .int .i64 (k : Int)] 29) ∧ Hid (wr.ownsRow w6.heap.size 9 1 (.slice va c vc) c (KK.map Value.string)) ∧ Hid (∃ U, Used wr B j U ∧ ∀ i, U i = true ↔ ∃ (q : Nat) (hq : q < KK.length), q < j ∧ Has L KK[q] i)) (fun i _ => c - (intOf i).toNat)
      case atStart => exact ⟨0, Nat.zero_le _, rfl, HG7, HK7, HM7, HV, hid ⟨_, HU7.out, fun i => ⟨fun h => (by cases h), fun ⟨q, _, h, _⟩ => (by omega)⟩⟩⟩
      case round =>
        obtain ⟨j, hj, rfl, HG8, HK8, HM8, HV8, HU8⟩ := hrel
        clear HG7 HK7 HM7 HU7 HV
        obtain ⟨U, hU, hUi⟩ := HU8.out
        have HU := hid hU
        have HUi := hid hUi
        clear HU8 hU hUi
        by_cases hlt : j < c
        · have hjl : j < KK.length := by rw [HN.out]; exact hlt
          obtain ⟨va2, vc2, e2, hcell⟩ := own_slice HV8.out
          injection e2 with e2 _ e3
          subst e2 e3
          obtain ⟨g, rfl, hcl⟩ := hcell (by omega)
          have c0 := hcl j (.string KK[j]) (by simp [hjl])
          obtain ⟨s, hsm, hHas⟩ := (HMe.out KK[j]).1 (List.getElem_mem hjl)
          have hsl := (slot_has HG8.out hHas).1
          have hUs : U s = false := by
            cases e : U s with
            | false => rfl
            | true =>
              obtain ⟨q, hq, hqj, h1⟩ := (HUi.out s).1 e
              have : KK[q] = KK[j] := h1.2.symm.trans hHas.2
              exact absurd ((List.getElem_inj HD.out).1 this) (by omega)
          have HUn : Hid (∀ i, (if i = s then true else U i) = true ↔ ∃ (q : Nat) (hq : q < KK.length), q < j + 1 ∧ Has L KK[q] i) := hid (fun i => by
            constructor
            · intro h
              by_cases e : i = s
              · subst e; exact ⟨j, hjl, by omega, hHas⟩
              · rw [if_neg e] at h
                obtain ⟨q, hq, hqj, h1⟩ := (HUi.out i).1 h
                exact ⟨q, hq, by omega, h1⟩
            · rintro ⟨q, hq, hqj, h1⟩
              by_cases e : i = s
              · rw [if_pos e]
              · rw [if_neg e]
                rcases (show q < j ∨ q = j by omega) with h2 | h2
                · exact (HUi.out i).2 ⟨q, hq, h2, h1⟩
                · subst h2
                  exact absurd (HG8.out.ok.one i s h1.1 hHas.1 (h1.2.trans hHas.2.symm)) e)
          have hxs : KK[j].size ≤ maxLen := by have := HG8.out.small s; rw [hHas.2] at this; unfold maxLen; omega
          generalize KK[j] = x at *
          clear hcell hcl hHas
          go_wp2_with fail
          refine (slot_any x hxs _ HG8.out).mono ?_
          rintro e w9 ⟨rfl, k9⟩
          rw [hsl]
          have HG9 := hid (good_kept HG8.out k9)
          have HK9 := hid (kept_trans HK8.out k9)
          have HM9 := hid (at_kept HM8.out k9)
          have HV9 := hid (own_stays HV8.out k9)
          have HU9 := hid (used_kept HU.out k9)
          have hlook := used_look HU9.out s (by omega)
          rw [hUs] at hlook
          obtain ⟨w10, hup, hU10, ht10⟩ := used_put HU9.out (by omega) s (by omega)
          have HG10 := hid (good_turned HG9.out ht10)
          have HK10 := hid (kept_turned HK9.out HB.out ht10)
          have HM10 := hid (at_turned HM9.out ht10)
          have HV10 := hid (own_turned HV9.out ht10)
          have HU10 := hid hU10
          obtain ⟨y0, y1, yf⟩ := at_cells2 HM9.out
          have t1 : decide ((s : Int) < 0) = false := by simp
          have t2 : decide ((m : Int) ≤ (s : Int)) = false := by simp; omega
          clear k9 hU10 ht10 HG9 HK9 HM9 HV9 HU9 c0 hUs hsl
          go_wp2_with fail
          go_roundw
          case rel => exact ⟨j + 1, by omega, by go_num, HG10, HK10, HM10, HV10, hid ⟨_, HU10.out, HUn.out⟩⟩
          case measure => simp [intOf]; omega
        · have hje : j = c := by omega
          have HUt : Hid (∀ i, (L i).taken = true → U i = true) := hid (fun i t => by
            have hi := HG8.out.ok.lt t
            obtain ⟨q, hq, e⟩ := List.getElem_of_mem ((HMe.out (L i).key).2 ⟨i, hi, t, rfl⟩)
            exact (HUi.out i).2 ⟨q, hq, by rw [hje, ← HN.out]; exact hq, t, e.symm⟩)
          clear HV8 HUi hje HD
          go_wp2_with fail
          refine (keys_any h4 HG8.out.small _ HG8.out.tab).mono ?_
          rintro e w9 ⟨v2, rfl, hv2, k9⟩
          rw [HKK.out, HC.out] at hv2
          have HG9 := hid (good_kept HG8.out k9)
          have HK9 := hid (kept_trans HK8.out k9)
          have HM9 := hid (at_kept HM8.out k9)
          have HU9 := hid (used_kept HU.out k9)
          obtain ⟨vb, vd, rfl, hvd⟩ := own_slice hv2
          have HV := hid hvd
          clear hv2 k9 hvd HG8 HK8 HM8 HU hlt
          go_wp2_with fail
          obtain ⟨wk, hwk⟩ : ∃ x, x = wr := ⟨_, rfl⟩
          subst hwk
          go_loopw [91] (fun i wr => ∃ (j : Nat), j ≤ c ∧ i = .int .i64 j ∧ Hid (Kept w9 wr)) (fun i _ => c - (intOf i).toNat)
          case atStart => exact ⟨0, Nat.zero_le _, rfl, hid (kept_refl _)⟩
          case round =>
            obtain ⟨j, hj, rfl, HKr⟩ := hrel
            by_cases hlt : j < c
            · have hjl : j < KK.length := by rw [HN.out]; exact hlt
              obtain ⟨g, rfl, hcl⟩ := HV.out (by omega)
              have c1 := hcl j (.string KK[j]) (by simp [hjl])
              have c0 := (kept_cell HKr.out (cell_lt c1)).trans c1
              obtain ⟨s, hsm, hHas⟩ := (HMe.out KK[j]).1 (List.getElem_mem hjl)
              have hsl := (slot_has HG9.out hHas).1
              have hxs : KK[j].size ≤ maxLen := by have := HG9.out.small s; rw [hHas.2] at this; unfold maxLen; omega
              have HH := hid hHas
              generalize KK[j] = x at *
              have hT := reftext_any x hxs
              have hwrap := hm_wrap (m := m) HG9.out.pos h4 x
              have hwf := bounds_u64 (wf_textI x.data.toList x.size)
              obtain ⟨y0, y1, yf⟩ := at_cells2 (at_kept HM9.out HKr.out)
              have HL := hid (hm_lt HG9.out.pos x)
              have HRun : Hid (∀ j, j < m → way m (hm m x) j < way m (hm m x) s → (L j).taken = true) := hid (fun j hj hw => by
                have := HG9.out.ok.run s hHas.1 j hj
                rw [hHas.2] at this
                exact this hw)
              have hm0 := HG9.out.pos
              clear hcl c1 hHas
              generalize textI x.data.toList x.size = tx at *
              go_wp2_with fail
              go_quiet ((go_at_call 24; exact Calls.quiet_of_same (hT _)))
              clear c0 hT y0 y1 yf
              have HKq := hid (kept_drewN HKr.out nq)
              generalize wr.drewN nq = wq at *
              clear HKr
              rw [hwrap]
              clear hwrap
              obtain ⟨wk2, hwk2⟩ : ∃ x, x = wr := ⟨_, rfl⟩
              subst hwk2
              go_wp2_with fail
              go_loopw [18] (fun i wr => ∃ (a : Nat), i = .int .i64 a ∧ a < m ∧ Hid (way m (hm m x) a ≤ way m (hm m x) s) ∧ Hid (Kept w9 wr)) (fun i _ => m - way m (hm m x) (intOf i).toNat)
              case atStart => exact ⟨hm m x, rfl, HL.out, hid (by rw [way_self]; exact Nat.zero_le _), HKq⟩
              case round =>
                obtain ⟨a, rfl, ha, HA, HKa⟩ := hrel
                by_cases has : a = s
                · have hase : ((a : Int) == (s : Int)) = true := by simp [has]
                  clear has
                  go_wp2_with fail
                  refine (slot_any x hxs _ (good_kept HG9.out HKa.out)).mono ?_
                  rintro e w11 ⟨rfl, k11⟩
                  rw [hsl]
                  have HKb := hid (kept_trans HKa.out k11)
                  clear k11
                  go_wp2_with fail
                  go_roundw
                  case rel => exact ⟨j + 1, by omega, by go_num, HKb⟩
                  case measure => simp [intOf]; omega
                · have hase : ((a : Int) == (s : Int)) = false := by simp; omega
                  obtain ⟨hl1, hl2⟩ := way_next HL.out ha hsm HA.out has
                  have HU1 := hid (HUt.out a (HRun.out a ha hl1))
                  have HL2 := hid hl2
                  have HL1 := hid hl1
                  clear has hl1 hl2
                  go_wp2_with fail
                  refine (slot_any x hxs _ (good_kept HG9.out HKa.out)).mono ?_
                  rintro e w11 ⟨rfl, k11⟩
                  rw [hsl]
                  have HKb := hid (kept_trans HKa.out k11)
                  have hlook := used_look (used_kept HU9.out HKb.out) a (by omega)
                  rw [HU1.out] at hlook
                  obtain ⟨y0, y1, yf⟩ := at_cells2 (at_kept HM9.out HKb.out)
                  have hnx := nxt_rem ha
                  clear k11
                  go_wp2_with fail
                  go_roundw
                  case rel =>
                    exact ⟨nxt m a, by rw [hnx], nxt_lt ha, hid (by rw [HL2.out]; have := HL1.out; omega), HKb⟩
                  case measure =>
                    have h1 := HL2.out
                    have h2 := way_lt HL.out (nxt_lt ha)
                    simp [intOf, hnx]
                    omega
            · go_wp2_with fail
              go_ret
              exact ⟨rfl, kept_trans HK9.out HKr.out⟩
end Go.Proofs.Ytibdnhnomjcclaa
