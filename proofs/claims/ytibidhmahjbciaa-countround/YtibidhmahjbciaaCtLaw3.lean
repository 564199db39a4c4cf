/- CountLost over whatever answers as the counts must: for any row of calls. -/
import Derived.Test.YtibidhmahjbciaaCtLost
import Derived.Carry
namespace Go.Proofs.Ytibidhmahjbciaa
open Go.ChangeShapes Go.WideShapes Go.ChangeAt Go.RowKit
set_option linter.unusedVariables false
set_option linter.unusedSimpArgs false
set_option maxRecDepth 100000

set_option maxHeartbeats 12800000 in
theorem law3_any {T : Shape (List Ct)} (hT : CtIs T) (l : List Opn) (hl : ∀ x ∈ l, inU64 x.n ∧ TxOk x.name) (v : Value) (w : World) (h : Rg encO 3 w v l) : Calls Try.prog 5 #[v] w fun e w' => e = .returned (.bool true) ∧ Kept w w' := by
  have HT := hid hT
  have HF := hid (fun u : World => fixed_any hT u)
  have HR := hid h
  obtain ⟨a, cap, rfl, hc1, hc2, -, -⟩ := h
  have HG : Hid (∀ k, k < l.length → ∃ y, l[k]? = some y ∧ inU64 y.n ∧ TxOk y.name) := hid (fun k hk => ⟨l[k], List.getElem?_eq_getElem hk, hl _ (List.getElem_mem hk)⟩)
  have HP : Hid (0 < l.length → ∃ g o, a = some ⟨g, o, none⟩) := hid (fun hp => by
    obtain ⟨g, o, c, e⟩ := rg_pos HR.out hp
    injection e with e1
    exact ⟨g, o, e1⟩)
  have hmx : l.length ≤ maxLen := by omega
  unfold maxLen at hmx
  have hz := zeroO
  have hmm := @run_makeMap Try.prog
  have hz2 := zeroC
  have ka := kept_alloc (kept_refl w) (.cells #[.string ⟨#[120]⟩, .string ⟨#[121]⟩] 9)
  have hN := ct_new (T := T) (W := w) hT ka may_xy qok_xy (rg_own encK_ok (og_built encK_ok 9 w w.heap.size (Nat.le_refl _) [tX, tY] (by decide)))
  rw [two_new] at hN
  clear hT hl hc1 hc2 ka
  generalize hm : l.length = m at *
  clear hm
  go_enter Try.func5, Try.ntmps5
  go_wp2_with fail
  refine hN.mono ?_
  rintro e w1 ⟨X, F, rfl, t1, -, -⟩
  have HT1 : Hid (TT T w X (two 0 0) F w1) := hid t1
  have hF := HF.out w1
  clear hN t1
  go_wp2_with fail
  refine hF.mono ?_
  rintro e w2 ⟨rfl, k2⟩
  have HT2 := hid (tt_kept HT.out.obj HT1.out k2)
  clear hF k2 HT1
  have HLo := hid (lo_start HT.out HT2.out)
  clear HT2
  go_wp2_with fail
  generalize (w2.alloc (.map #[] 0)).alloc (.map #[] 0) = w3 at *
  generalize w2.heap.size + 1 = B at *
  generalize w2.heap.size = A at *
  go_loopw [29] (fun j wr => ∃ (k : Nat) (a b : Int) (F : Nat → Prop) (ga gt : ByteArray → Option Int) (ca cb : Nat), k ≤ m ∧ j = .int .i64 (k : Int) ∧ Hid (LoN k a b ga gt ca cb) ∧ Hid (Lo T w X a b F A ga ca B gt cb wr)) (fun j _ => m - (intOf j).toNat)
  case atStart => exact ⟨0, 0, 0, F, _, _, 0, 0, Nat.zero_le _, rfl, hid lon_zero, HLo⟩
  case round =>
    obtain ⟨k, a, b, F3, ga, gt, ca, cb, hk, rfl, HN, HLr⟩ := hrel
    clear HLo
    by_cases hlt : k < m
    · obtain ⟨x, hx, hx2⟩ := HG.out k hlt
      obtain ⟨g, o, rfl⟩ := HP.out (by omega)
      have HX := hid hx2
      obtain ⟨c0, c1, c2⟩ := rg_O (rg_kept encO_ok HR.out HLr.out.t.k) hx
      have HZ := hid (at_new wr #[.bool x.reset, .string x.name, .int .u64 x.n] 34)
      have ka := kept_alloc (kept_refl wr) (.cells #[.bool x.reset, .string x.name, .int .u64 x.n] 34)
      have HLa := hid (lo_kept HT.out HLr.out ka)
      have HOff : Hid (Off (wr.alloc (.cells #[.bool x.reset, .string x.name, .int .u64 x.n] 34)) F3 wr.heap.size) := hid (off_new HT.out.obj HLr.out.t (Nat.le_refl _) (at_lt HZ.out))
      clear hx hx2 ka HLr
      go_upto_region 8 with fail
      generalize wr.alloc (.cells #[.bool x.reset, .string x.name, .int .u64 x.n] 34) = wa at *
      generalize wr.heap.size = Zo at *
      clear c0 c1 c2
      obtain ⟨z0, z1, z2⟩ := cells3 HZ.out
      by_cases h200 : 200 < k
      · have hd2 : decide ((200 : Int) < (k : Int)) = true := by simp; omega
        clear z0 z1 z2 HZ HOff
        have HRw := hid (rg_own encK_ok (og_built encK_ok 9 wa wa.heap.size (Nat.le_refl _) [tX, tY] (by decide)))
        have HLb := hid (lo_kept HT.out HLa.out (kept_alloc (kept_refl wa) (.cells #[.string ⟨#[120]⟩, .string ⟨#[121]⟩] 9)))
        clear HLa
        have HRw2 : Hid (Rg encK 1 (wa.alloc (.cells #[.string ⟨#[120]⟩, .string ⟨#[121]⟩] 9)) (.slice (some ⟨wa.heap.size, 0, none⟩) 2 2) [tX, tY]) := HRw
        clear HRw
        go_wp2_with fail
        generalize wa.alloc (.cells #[.string ⟨#[120]⟩, .string ⟨#[121]⟩] 9) = wb at *
        generalize wa.heap.size = Rr at *
        go_loopw [71] (fun j wq => ∃ i : Nat, i ≤ 2 ∧ j = .int .i64 (i : Int) ∧ Hid (Kept wb wq)) (fun j _ => 2 - (intOf j).toNat)
        case atStart => exact ⟨0, by omega, rfl, hid (kept_refl _)⟩
        case round =>
          obtain ⟨i, hi, rfl, HKq⟩ := hrel
          by_cases hil : i < 2
          · obtain ⟨c, hc⟩ : ∃ c, (two a b)[i]? = some c := ⟨_, List.getElem?_eq_getElem hil⟩
            obtain ⟨e1, e2, e3, e4⟩ := lo_end HN.out hc
            have HLq := hid (lo_kept HT.out HLb.out HKq.out)
            have c0 := rg_K (rg_kept encK_ok HRw2.out HKq.out) (two_names hc)
            rw [Nat.zero_add] at c0
            have HA9 : Hid (∀ u : World, Gm Try.prog mapN u A ga ca → (Instr.lookup 44 (.map (some A)) (.string c.name) false).run Try.prog u = .ok (.int .u64 (vG ga c.name)) u) := hid (fun u h => look_N h e1)
            have HB9 : Hid (∀ u : World, Gm Try.prog mapN u B gt cb → (Instr.lookup 44 (.map (some B)) (.string c.name) false).run Try.prog u = .ok (.int .u64 (vG gt c.name)) u) := hid (fun u h => look_N h e1)
            have hw : IntKind.u64.wrap (vG gt c.name + c.n) = vG ga c.name := by rw [e3, IntKind.wrap_u64]; unfold inU64 at e4; omega
            have HKd := hid (kept_trans HKq.out (kept_drew (kept_refl wr)))
            have HPd := hid (lo_kept HT.out HLq.out (kept_drew (kept_refl wr)))
            have hGet := ct_get HT.out HPd.out.t (lon_ok HN.out) c.name e1
            rw [e2] at hGet
            have hS := And.intro (HB9.out _ HPd.out.b) (HA9.out _ HPd.out.a)
            clear hc e1 e2 e3 e4
            generalize vG ga c.name = av at *
            generalize vG gt c.name = tv at *
            have hgg : (av != av) = false := by simp
            go_upto_region 21 with fail
            clear HLq HKq c0
            refine wp_region_noPanic ?_
            refine wp_region_held_drew (S := (fun w' => ((Instr.lookup 44 (.map (some B)) (.string c.name) false).run Try.prog w' = .ok (.int .u64 tv) w') ∧ ((Instr.lookup 44 (.map (some A)) (.string c.name) false).run Try.prog w' = .ok (.int .u64 av) w'))) (by kernel_rfl) (hS) (fun hHeld => ?_)
            generalize wr.drew = wd at *
            refine wpAnyH_take (i := 0) (v := .map (some B)) rfl (by kernel_rfl) (by kernel_rfl) (by kernel_rfl) (fun _ _ _ h => h) (Or.inl ⟨by rfl, fun w hSw => by (try dsimp only at hSw); go_simp⟩) (by assumption) ?_
            try simp only [List.getElem_toArray, List.getElem_cons_zero, List.getElem_cons_succ, Act.put, List.setIfInBounds_toArray, List.set_cons_zero, List.set_cons_succ]
            refine wpAnyH_take (i := 1) (v := .string c.name) rfl (by kernel_rfl) (by kernel_rfl) (by kernel_rfl) (fun _ _ _ h => h) (Or.inl ⟨by rfl, fun w hSw => by (try dsimp only at hSw); go_simp⟩) (by assumption) ?_
            try simp only [List.getElem_toArray, List.getElem_cons_zero, List.getElem_cons_succ, Act.put, List.setIfInBounds_toArray, List.set_cons_zero, List.set_cons_succ]
            refine wpAnyH_take (i := 2) (v := .int .u64 tv) rfl (by kernel_rfl) (by kernel_rfl) (by kernel_rfl) (fun _ _ _ h => h) (Or.inl ⟨by rfl, fun w hSw => by (try dsimp only at hSw); go_simp⟩) (by assumption) ?_
            try simp only [List.getElem_toArray, List.getElem_cons_zero, List.getElem_cons_succ, Act.put, List.setIfInBounds_toArray, List.set_cons_zero, List.set_cons_succ]
            refine wpAnyH_take (i := 3) (v := .pointer (some ⟨X, 0, none⟩)) rfl (by kernel_rfl) (by kernel_rfl) (by kernel_rfl) (fun _ _ _ h => h) (Or.inl ⟨by rfl, fun w hSw => by (try dsimp only at hSw); go_simp⟩) (by assumption) ?_
            try simp only [List.getElem_toArray, List.getElem_cons_zero, List.getElem_cons_succ, Act.put, List.setIfInBounds_toArray, List.set_cons_zero, List.set_cons_succ]
            refine wpAnyH_take (i := 4) (v := .string c.name) rfl (by kernel_rfl) (by kernel_rfl) (by kernel_rfl) (fun _ _ _ h => h) (Or.inl ⟨by rfl, fun w hSw => by (try dsimp only at hSw); go_simp⟩) (by assumption) ?_
            try simp only [List.getElem_toArray, List.getElem_cons_zero, List.getElem_cons_succ, Act.put, List.setIfInBounds_toArray, List.set_cons_zero, List.set_cons_succ]
            refine wpAnyH_take (i := 7) (v := .map (some A)) rfl (by kernel_rfl) (by kernel_rfl) (by kernel_rfl) (fun _ _ _ h => h) (Or.inl ⟨by rfl, fun w hSw => by (try dsimp only at hSw); go_simp⟩) (by assumption) ?_
            try simp only [List.getElem_toArray, List.getElem_cons_zero, List.getElem_cons_succ, Act.put, List.setIfInBounds_toArray, List.set_cons_zero, List.set_cons_succ]
            refine wpAnyH_take (i := 8) (v := .string c.name) rfl (by kernel_rfl) (by kernel_rfl) (by kernel_rfl) (fun _ _ _ h => h) (Or.inl ⟨by rfl, fun w hSw => by (try dsimp only at hSw); go_simp⟩) (by assumption) ?_
            try simp only [List.getElem_toArray, List.getElem_cons_zero, List.getElem_cons_succ, Act.put, List.setIfInBounds_toArray, List.set_cons_zero, List.set_cons_succ]
            refine wpAnyH_take (i := 9) (v := .int .u64 av) rfl (by kernel_rfl) (by kernel_rfl) (by kernel_rfl) (fun _ _ _ h => h) (Or.inl ⟨by rfl, fun w hSw => by (try dsimp only at hSw); go_simp⟩) (by assumption) ?_
            try simp only [List.getElem_toArray, List.getElem_cons_zero, List.getElem_cons_succ, Act.put, List.setIfInBounds_toArray, List.set_cons_zero, List.set_cons_succ]
            refine wpAnyH_ready (rs := [5]) (by kernel_rfl) (by simp) ?_
            refine AllReadyH.cons (i := 5) rfl (fun K hK => ?_) AllReadyH.nil
            go_simp
            refine (hGet).mono ?_
            rintro e w8 ⟨rfl, t8, k8⟩
            have HL9 := hid (lo_kept HT.out HPd.out k8)
            have hS := And.intro (HB9.out _ HL9.out.b) (HA9.out _ HL9.out.a)
            have HKe := hid k8
            clear t8 k8 hGet HPd
            clear hHeld
            show K _ _
            refine hK.out _ _ (hS) (fun hHeld => ?_)
            clear hK K
            try simp only [List.getElem_toArray, List.getElem_cons_zero, List.getElem_cons_succ, Act.put, List.setIfInBounds_toArray, List.set_cons_zero, List.set_cons_succ]
            refine wpAnyH_take (i := 6) (v := .int .u64 av) rfl (by kernel_rfl) (by kernel_rfl) (by kernel_rfl) (fun _ _ _ h => h) (Or.inl ⟨by rfl, fun w hSw => by (try dsimp only at hSw); go_simp⟩) (by assumption) ?_
            try simp only [List.getElem_toArray, List.getElem_cons_zero, List.getElem_cons_succ, Act.put, List.setIfInBounds_toArray, List.set_cons_zero, List.set_cons_succ]
            refine wpAnyH_take (i := 10) (v := .bool false) rfl (by kernel_rfl) (by kernel_rfl) (by kernel_rfl) (fun _ _ _ h => h) (Or.inl ⟨by rfl, fun w hSw => by (try dsimp only at hSw); go_simp⟩) (by assumption) ?_
            try simp only [List.getElem_toArray, List.getElem_cons_zero, List.getElem_cons_succ, Act.put, List.setIfInBounds_toArray, List.set_cons_zero, List.set_cons_succ]
            refine wpAnyH_done (by kernel_rfl) ?_ _
            refine NoPanic.normal ?_
            clear hHeld hS
            go_wp2_with fail
            go_roundw
            case rel => exact ⟨i + 1, by omega, by go_num, hid (kept_trans HKd.out HKe.out)⟩
            case measure => simp [intOf]; omega
          · have he : i = 2 := by omega
            subst he
            have HLq := hid (lo_kept HT.out HLb.out HKq.out)
            have h1 := HT.out.add_nil ⟨#[120]⟩ 1 wr (by unfold inU64; decide)
            go_wp2_with fail
            refine h1.mono ?_
            rintro e w5 ⟨rfl, k5⟩
            have HK5 := hid (kept_trans HLq.out.t.k k5)
            have h2 := HT.out.get_nil ⟨#[120]⟩ w5
            clear h1 k5
            go_wp2_with fail
            refine h2.mono ?_
            rintro e w6 ⟨rfl, k6⟩
            have HK6 := hid (kept_trans HK5.out k6)
            have h3 := HT.out.all_nil w6
            clear h2 k6
            go_wp2_with fail
            refine h3.mono ?_
            rintro e w7 ⟨a7, cap7, rfl, k7⟩
            have HK7 := hid (kept_trans HK6.out k7)
            have h4 := HT.out.reset_nil w7
            clear h3 k7
            go_wp2_with fail
            refine h4.mono ?_
            rintro e w8 ⟨a8, cap8, rfl, k8⟩
            have HK8 := hid (kept_trans HK7.out k8)
            clear h4 k8
            go_wp2_with fail
            go_ret
            exact ⟨rfl, HK8.out⟩
      · have hd2 : decide ((200 : Int) < (k : Int)) = false := by simp; omega
        have hk2 : k ≤ 200 := by omega
        cases hre : x.reset with
        | true =>
          rw [hre] at z0
          have hA := ct_reset HT.out HLa.out.t (lon_ok HN.out)
          rw [two_rest] at hA
          clear z1 z2
          go_wp2_with fail
          refine hA.mono ?_
          rintro e w4 ⟨r, F4, rfl, o4, a4, t4, d4⟩
          have HL4 : Hid (Lo T w X 0 0 F4 A ga ca B gt cb w4) := hid (lo_sd HLa.out t4 d4)
          obtain ⟨rg, rc, rfl⟩ := og_pos encC_ok o4 (show 0 < (two a b).length from Nat.succ_pos _)
          have HO4 : Hid (Og encC 2 46 w4 wa.heap.size (.slice (some ⟨rg, 0, none⟩) 2 rc) (two a b)) := hid o4
          generalize wa.heap.size = Bs at HO4
          have e2 : (two a b).length = 2 := rfl
          rw [e2]
          clear hA o4 a4 t4 d4 z0 HLa HZ HOff
          go_wp2_with fail
          go_loopw [41] (fun j wq => ∃ (i : Nat) (g : ByteArray → Option Int) (c : Nat), i ≤ 2 ∧ j = .int .i64 (i : Int) ∧ Hid (InN i a b gt g cb c) ∧ Hid (Lo T w X 0 0 F4 A ga ca B g c wq) ∧ Hid (Og encC 2 46 wq Bs (.slice (some ⟨rg, 0, none⟩) 2 rc) (two a b))) (fun j _ => 2 - (intOf j).toNat)
          case atStart => exact ⟨0, gt, cb, by omega, rfl, hid (in_zero a b gt cb), HL4, HO4⟩
          case round =>
            obtain ⟨i, g5, c5, hi, rfl, HI, HLq, HRq⟩ := hrel
            clear HL4 HO4
            by_cases hil : i < 2
            · obtain ⟨d, hd⟩ : ∃ d, (two a b)[i]? = some d := ⟨_, List.getElem?_eq_getElem hil⟩
              obtain ⟨n1, n2, n3, n4, n5⟩ := in_next HN.out HI.out hd
              have HI' := hid n5
              have HC : Hid (c5 ≤ 1000) := hid (by have := HI.out.c; have := HN.out.cb; omega)
              obtain ⟨c0, c1⟩ := og_C HRq.out hd
              have ka := kept_alloc (kept_refl wr) (.cells #[.string d.name, .int .u64 d.n] 46)
              have HLb := hid (lo_kept HT.out HLq.out ka)
              have HRb := hid (og_stays HRq.out ka)
              have HZs := hid (at_new wr #[.string d.name, .int .u64 d.n] 46)
              clear hd ka n5 HLq HRq HI
              go_upto_region 13 with fail
              generalize wr.alloc (.cells #[.string d.name, .int .u64 d.n] 46) = wv at *
              generalize wr.heap.size = Zs at *
              clear c0 c1
              have y0 := at_cell HZs.out 0
              have y1 := at_cell HZs.out 1
              replace y0 : wv.cell? ⟨Zs, 0, none⟩ = some (.string d.name) := y0
              replace y1 : wv.cell? ⟨Zs, 1, none⟩ = some (.int .u64 d.n) := y1
              have hlk := look_N HLb.out.b n1
              obtain ⟨w6, hput, g6, t6⟩ := put_N HLb.out.b HC.out n1 (vG g5 d.name + d.n)
              have e1 : IntKind.u64.wrap (vG g5 d.name + d.n) = vG g5 d.name + d.n := by rw [IntKind.wrap_u64]; omega
              have HL6 := hid (lo_putB HT.out HLb.out g6 t6)
              have HR6 := hid (og_turned HRb.out t6)
              clear g6 t6 n1 n2 n3 n4 HLb HRb HZs HC
              generalize vG g5 d.name = q at *
              go_wp2_with fail
              go_roundw
              case rel => exact ⟨i + 1, _, _, by omega, by go_num, HI', HL6, HR6⟩
              case measure => simp [intOf]; omega
            · have he : i = 2 := by omega
              subst he
              have HN' := hid (in_end HN.out hk2 HI.out)
              go_wp2_with fail
              go_roundw
              case rel => exact ⟨k + 1, 0, 0, F4, ga, g5, ca, c5, by omega, by go_num, HN', HLq⟩
              case measure => simp [intOf]; omega
        | false =>
          rw [hre] at z0
          obtain ⟨n0, hn0⟩ : ∃ n0, x.n % 1125899906842624 = n0 := ⟨_, rfl⟩
          have hn : 0 ≤ n0 ∧ n0 < 1125899906842624 := by
            have h1 := Int.emod_nonneg x.n (show (1125899906842624 : Int) ≠ 0 by decide)
            have h2 := Int.emod_lt_of_pos x.n (show (0 : Int) < 1125899906842624 by decide)
            omega
          have t1 : Int.tmod x.n 1125899906842624 = n0 := by rw [Int.tmod_eq_emod_of_nonneg HX.out.1.1, hn0]
          have t2 : IntKind.u64.wrap n0 = n0 := by rw [IntKind.wrap_u64]; omega
          have hA := ct_add HT.out HLa.out.t (lon_ok HN.out) x.name HX.out.2 (n := n0) ⟨hn.1, by omega⟩
          clear hn0
          rcases lo_add HN.out hk2 hn x.name with ⟨e1, e2, N'⟩ | ⟨e1, q1, q2, q3, a', b', e2, N'⟩
          · rw [e1, e2] at hA
            have HN' := hid N'
            clear N' e1 e2
            go_wp2_with fail
            refine hA.mono ?_
            rintro e w4 ⟨F4, rfl, t4, d4⟩
            have HL4 := hid (lo_sd HLa.out t4 d4)
            clear hA t4 d4
            go_wp2_with fail
            go_roundw
            case rel => exact ⟨k + 1, a, b, F4, ga, gt, ca, cb, by omega, by go_num, HN', HL4⟩
            case measure => simp [intOf]; omega
          · rw [e1, e2] at hA
            have HN' := hid N'
            have HC : Hid (ca ≤ 1000) := hid (by have := HN.out.ca; omega)
            clear N' e1 e2
            go_wp2_with fail
            refine hA.mono ?_
            rintro e w4 ⟨F4, rfl, t4, d4⟩
            have HL4 := hid (lo_sd HLa.out t4 d4)
            obtain ⟨y0, y1, y2⟩ := cells3 (at_sd HZ.out HOff.out d4)
            have hlk := look_N HL4.out.a q1
            obtain ⟨w6, hput, g6, t6⟩ := put_N HL4.out.a HC.out q1 (vG ga x.name + n0)
            have e1 : IntKind.u64.wrap (vG ga x.name + n0) = vG ga x.name + n0 := by rw [IntKind.wrap_u64]; omega
            have HL6 := hid (lo_putA HT.out HL4.out g6 t6)
            clear hA t4 d4 g6 t6 q1 q2 q3 HL4 HLa HZ HOff HC z0 z1 z2
            generalize vG ga x.name = q at *
            go_wp2_with fail
            go_roundw
            case rel => exact ⟨k + 1, a', b', F4, _, gt, _, cb, by omega, by go_num, HN', HL6⟩
            case measure => simp [intOf]; omega
    · have he : k = m := by omega
      subst he
      have HLa := HLr
      generalize hwa : wr = wa at *
      clear hwa HLr
      have HRw := hid (rg_own encK_ok (og_built encK_ok 9 wa wa.heap.size (Nat.le_refl _) [tX, tY] (by decide)))
      have HLb := hid (lo_kept HT.out HLa.out (kept_alloc (kept_refl wa) (.cells #[.string ⟨#[120]⟩, .string ⟨#[121]⟩] 9)))
      clear HLa
      have HRw2 : Hid (Rg encK 1 (wa.alloc (.cells #[.string ⟨#[120]⟩, .string ⟨#[121]⟩] 9)) (.slice (some ⟨wa.heap.size, 0, none⟩) 2 2) [tX, tY]) := HRw
      clear HRw
      go_wp2_with fail
      generalize wa.alloc (.cells #[.string ⟨#[120]⟩, .string ⟨#[121]⟩] 9) = wb at *
      generalize wa.heap.size = Rr at *
      go_loopw [71] (fun j wq => ∃ i : Nat, i ≤ 2 ∧ j = .int .i64 (i : Int) ∧ Hid (Kept wb wq)) (fun j _ => 2 - (intOf j).toNat)
      case atStart => exact ⟨0, by omega, rfl, hid (kept_refl _)⟩
      case round =>
        obtain ⟨i, hi, rfl, HKq⟩ := hrel
        by_cases hil : i < 2
        · obtain ⟨c, hc⟩ : ∃ c, (two a b)[i]? = some c := ⟨_, List.getElem?_eq_getElem hil⟩
          obtain ⟨e1, e2, e3, e4⟩ := lo_end HN.out hc
          have HLq := hid (lo_kept HT.out HLb.out HKq.out)
          have c0 := rg_K (rg_kept encK_ok HRw2.out HKq.out) (two_names hc)
          rw [Nat.zero_add] at c0
          have HA9 : Hid (∀ u : World, Gm Try.prog mapN u A ga ca → (Instr.lookup 44 (.map (some A)) (.string c.name) false).run Try.prog u = .ok (.int .u64 (vG ga c.name)) u) := hid (fun u h => look_N h e1)
          have HB9 : Hid (∀ u : World, Gm Try.prog mapN u B gt cb → (Instr.lookup 44 (.map (some B)) (.string c.name) false).run Try.prog u = .ok (.int .u64 (vG gt c.name)) u) := hid (fun u h => look_N h e1)
          have hw : IntKind.u64.wrap (vG gt c.name + c.n) = vG ga c.name := by rw [e3, IntKind.wrap_u64]; unfold inU64 at e4; omega
          have HKd := hid (kept_trans HKq.out (kept_drew (kept_refl wr)))
          have HPd := hid (lo_kept HT.out HLq.out (kept_drew (kept_refl wr)))
          have hGet := ct_get HT.out HPd.out.t (lon_ok HN.out) c.name e1
          rw [e2] at hGet
          have hS := And.intro (HB9.out _ HPd.out.b) (HA9.out _ HPd.out.a)
          clear hc e1 e2 e3 e4
          generalize vG ga c.name = av at *
          generalize vG gt c.name = tv at *
          have hgg : (av != av) = false := by simp
          go_upto_region 21 with fail
          clear HLq HKq c0
          refine wp_region_noPanic ?_
          refine wp_region_held_drew (S := (fun w' => ((Instr.lookup 44 (.map (some B)) (.string c.name) false).run Try.prog w' = .ok (.int .u64 tv) w') ∧ ((Instr.lookup 44 (.map (some A)) (.string c.name) false).run Try.prog w' = .ok (.int .u64 av) w'))) (by kernel_rfl) (hS) (fun hHeld => ?_)
          generalize wr.drew = wd at *
          refine wpAnyH_take (i := 0) (v := .map (some B)) rfl (by kernel_rfl) (by kernel_rfl) (by kernel_rfl) (fun _ _ _ h => h) (Or.inl ⟨by rfl, fun w hSw => by (try dsimp only at hSw); go_simp⟩) (by assumption) ?_
          try simp only [List.getElem_toArray, List.getElem_cons_zero, List.getElem_cons_succ, Act.put, List.setIfInBounds_toArray, List.set_cons_zero, List.set_cons_succ]
          refine wpAnyH_take (i := 1) (v := .string c.name) rfl (by kernel_rfl) (by kernel_rfl) (by kernel_rfl) (fun _ _ _ h => h) (Or.inl ⟨by rfl, fun w hSw => by (try dsimp only at hSw); go_simp⟩) (by assumption) ?_
          try simp only [List.getElem_toArray, List.getElem_cons_zero, List.getElem_cons_succ, Act.put, List.setIfInBounds_toArray, List.set_cons_zero, List.set_cons_succ]
          refine wpAnyH_take (i := 2) (v := .int .u64 tv) rfl (by kernel_rfl) (by kernel_rfl) (by kernel_rfl) (fun _ _ _ h => h) (Or.inl ⟨by rfl, fun w hSw => by (try dsimp only at hSw); go_simp⟩) (by assumption) ?_
          try simp only [List.getElem_toArray, List.getElem_cons_zero, List.getElem_cons_succ, Act.put, List.setIfInBounds_toArray, List.set_cons_zero, List.set_cons_succ]
          refine wpAnyH_take (i := 3) (v := .pointer (some ⟨X, 0, none⟩)) rfl (by kernel_rfl) (by kernel_rfl) (by kernel_rfl) (fun _ _ _ h => h) (Or.inl ⟨by rfl, fun w hSw => by (try dsimp only at hSw); go_simp⟩) (by assumption) ?_
          try simp only [List.getElem_toArray, List.getElem_cons_zero, List.getElem_cons_succ, Act.put, List.setIfInBounds_toArray, List.set_cons_zero, List.set_cons_succ]
          refine wpAnyH_take (i := 4) (v := .string c.name) rfl (by kernel_rfl) (by kernel_rfl) (by kernel_rfl) (fun _ _ _ h => h) (Or.inl ⟨by rfl, fun w hSw => by (try dsimp only at hSw); go_simp⟩) (by assumption) ?_
          try simp only [List.getElem_toArray, List.getElem_cons_zero, List.getElem_cons_succ, Act.put, List.setIfInBounds_toArray, List.set_cons_zero, List.set_cons_succ]
          refine wpAnyH_take (i := 7) (v := .map (some A)) rfl (by kernel_rfl) (by kernel_rfl) (by kernel_rfl) (fun _ _ _ h => h) (Or.inl ⟨by rfl, fun w hSw => by (try dsimp only at hSw); go_simp⟩) (by assumption) ?_
          try simp only [List.getElem_toArray, List.getElem_cons_zero, List.getElem_cons_succ, Act.put, List.setIfInBounds_toArray, List.set_cons_zero, List.set_cons_succ]
          refine wpAnyH_take (i := 8) (v := .string c.name) rfl (by kernel_rfl) (by kernel_rfl) (by kernel_rfl) (fun _ _ _ h => h) (Or.inl ⟨by rfl, fun w hSw => by (try dsimp only at hSw); go_simp⟩) (by assumption) ?_
          try simp only [List.getElem_toArray, List.getElem_cons_zero, List.getElem_cons_succ, Act.put, List.setIfInBounds_toArray, List.set_cons_zero, List.set_cons_succ]
          refine wpAnyH_take (i := 9) (v := .int .u64 av) rfl (by kernel_rfl) (by kernel_rfl) (by kernel_rfl) (fun _ _ _ h => h) (Or.inl ⟨by rfl, fun w hSw => by (try dsimp only at hSw); go_simp⟩) (by assumption) ?_
          try simp only [List.getElem_toArray, List.getElem_cons_zero, List.getElem_cons_succ, Act.put, List.setIfInBounds_toArray, List.set_cons_zero, List.set_cons_succ]
          refine wpAnyH_ready (rs := [5]) (by kernel_rfl) (by simp) ?_
          refine AllReadyH.cons (i := 5) rfl (fun K hK => ?_) AllReadyH.nil
          go_simp
          refine (hGet).mono ?_
          rintro e w8 ⟨rfl, t8, k8⟩
          have HL9 := hid (lo_kept HT.out HPd.out k8)
          have hS := And.intro (HB9.out _ HL9.out.b) (HA9.out _ HL9.out.a)
          have HKe := hid k8
          clear t8 k8 hGet HPd
          clear hHeld
          show K _ _
          refine hK.out _ _ (hS) (fun hHeld => ?_)
          clear hK K
          try simp only [List.getElem_toArray, List.getElem_cons_zero, List.getElem_cons_succ, Act.put, List.setIfInBounds_toArray, List.set_cons_zero, List.set_cons_succ]
          refine wpAnyH_take (i := 6) (v := .int .u64 av) rfl (by kernel_rfl) (by kernel_rfl) (by kernel_rfl) (fun _ _ _ h => h) (Or.inl ⟨by rfl, fun w hSw => by (try dsimp only at hSw); go_simp⟩) (by assumption) ?_
          try simp only [List.getElem_toArray, List.getElem_cons_zero, List.getElem_cons_succ, Act.put, List.setIfInBounds_toArray, List.set_cons_zero, List.set_cons_succ]
          refine wpAnyH_take (i := 10) (v := .bool false) rfl (by kernel_rfl) (by kernel_rfl) (by kernel_rfl) (fun _ _ _ h => h) (Or.inl ⟨by rfl, fun w hSw => by (try dsimp only at hSw); go_simp⟩) (by assumption) ?_
          try simp only [List.getElem_toArray, List.getElem_cons_zero, List.getElem_cons_succ, Act.put, List.setIfInBounds_toArray, List.set_cons_zero, List.set_cons_succ]
          refine wpAnyH_done (by kernel_rfl) ?_ _
          refine NoPanic.normal ?_
          clear hHeld hS
          go_wp2_with fail
          go_roundw
          case rel => exact ⟨i + 1, by omega, by go_num, hid (kept_trans HKd.out HKe.out)⟩
          case measure => simp [intOf]; omega
        · have he : i = 2 := by omega
          subst he
          have HLq := hid (lo_kept HT.out HLb.out HKq.out)
          have h1 := HT.out.add_nil ⟨#[120]⟩ 1 wr (by unfold inU64; decide)
          go_wp2_with fail
          refine h1.mono ?_
          rintro e w5 ⟨rfl, k5⟩
          have HK5 := hid (kept_trans HLq.out.t.k k5)
          have h2 := HT.out.get_nil ⟨#[120]⟩ w5
          clear h1 k5
          go_wp2_with fail
          refine h2.mono ?_
          rintro e w6 ⟨rfl, k6⟩
          have HK6 := hid (kept_trans HK5.out k6)
          have h3 := HT.out.all_nil w6
          clear h2 k6
          go_wp2_with fail
          refine h3.mono ?_
          rintro e w7 ⟨a7, cap7, rfl, k7⟩
          have HK7 := hid (kept_trans HK6.out k7)
          have h4 := HT.out.reset_nil w7
          clear h3 k7
          go_wp2_with fail
          refine h4.mono ?_
          rintro e w8 ⟨a8, cap8, rfl, k8⟩
          have HK8 := hid (kept_trans HK7.out k8)
          clear h4 k8
          go_wp2_with fail
          go_ret
          exact ⟨rfl, HK8.out⟩
end Go.Proofs.Ytibidhmahjbciaa
