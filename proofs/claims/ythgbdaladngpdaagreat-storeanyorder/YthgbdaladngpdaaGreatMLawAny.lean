/- The law that which records there are hangs on which were put alone, walked: it answers true and turns nothing that was there. -/
import Derived.Test.YthgbdaladngpdaaGreatM20
import Derived.Test.YthgbdaladngpdaaGreatMLawBounded
import Derived.Test.YthgbdaladngpdaaGreatMLawPeeks
namespace Go.Proofs.YthgbdaladngpdaaGreat
open Go.ChangeShapes Go.WideShapes Go.ChangeAt Go.RowKit
open Go.Proofs.YthgbdaladngpdaaGreat.Whl (Tn tn_kept tn_refl tn_trans tn_set tn_alloc at_tn kept_tn It)
set_option linter.unusedVariables false
set_option linter.unusedSimpArgs false
set_option maxRecDepth 100000

theorem rowq_kept {w w' : World} {oa : Option Addr} {len cap b o : Nat} {S : Nat → R} (h : RowQ w oa len cap b o S) (k : Kept w w') : RowQ w' oa len cap b o S := by
  obtain ⟨h1, h2, h3, h4, h5⟩ := h
  refine ⟨h1, h2, h3, fun hl => ⟨(h4 hl).1, Nat.lt_of_lt_of_le (h4 hl).2 k.2⟩, fun i hi => ?_⟩
  exact ⟨(h5 i hi).1, c8_block (h5 i hi).2 (kept_block k (h4 (by omega)).2)⟩
def anyC : Cf := ⟨64, 1048576, 1000⟩
theorem anyC_may : anyC.may := by unfold Cf.may anyC; decide
def inA (S : Nat → R) (j : Nat) (x : R) : Prop := ∃ i, i < j ∧ x = S i
def inB (S : Nat → R) (n len ag j : Nat) (x : R) : Prop := (∃ i, i < j ∧ x = S ((n + len - i) % len)) ∨ ∃ i, i < j ∧ i < ag ∧ x = S i
theorem any_congr {P Q : R → Prop} {s : MS} (h : Any P s) (e : ∀ x, P x ↔ Q x) : Any Q s := ⟨h.fl, fun x hx => ⟨(e x).1 (h.sub x hx).1, (h.sub x hx).2⟩, fun y hy ya => h.cov y ((e y).2 hy) ya⟩
theorem inA_next (S : Nat → R) (j : Nat) (x : R) : inA S j x ∨ x = S j ↔ inA S (j + 1) x := by
  unfold inA
  constructor
  · rintro (⟨i, hi, e⟩ | e)
    · exact ⟨i, by omega, e⟩
    · exact ⟨j, by omega, e⟩
  · rintro ⟨i, hi, e⟩
    rcases (show i < j ∨ i = j by omega) with h | h
    · exact .inl ⟨i, h, e⟩
    · subst h; exact .inr e
theorem back_lt {n len i : Nat} (h : 0 < len) : (n + len - i) % len < len := Nat.mod_lt _ h
theorem back_back {n len i : Nat} (hn : n < len) (hi : i < len) : (n + len - (n + len - i) % len) % len = i := by
  by_cases h : i ≤ n
  · have e1 : (n + len - i) % len = n - i := by
      rw [show n + len - i = (n - i) + len by omega, Nat.add_mod_right, Nat.mod_eq_of_lt (by omega)]
    rw [e1, show n + len - (n - i) = i + len by omega, Nat.add_mod_right, Nat.mod_eq_of_lt hi]
  · have e1 : (n + len - i) % len = n + len - i := Nat.mod_eq_of_lt (by omega)
    rw [e1, show n + len - (n + len - i) = i by omega, Nat.mod_eq_of_lt hi]
theorem in_same {S : Nat → R} {n len ag : Nat} (hn : n < len) (x : R) : inA S len x ↔ inB S n len ag len x := by
  unfold inA inB
  constructor
  · rintro ⟨i, hi, e⟩
    exact .inl ⟨(n + len - i) % len, back_lt (by omega), by rw [back_back hn hi]; exact e⟩
  · rintro (⟨i, hi, e⟩ | ⟨i, hi, _, e⟩)
    · exact ⟨_, back_lt (by omega), e⟩
    · exact ⟨i, hi, e⟩
theorem any_len {P : R → Prop} {s : MS} {S : Nat → R} {len : Nat} (h : Any P s) (hk : Keys s.L) (hP : ∀ x, P x → ∃ i, i < len ∧ x = S i) : s.L.length ≤ len := by
  have := nodup_subN (P := (List.range len).map S) (keys_nodup hk) (fun x hx => by
    obtain ⟨i, hi, e⟩ := hP x (h.sub x hx).1
    exact List.mem_map.2 ⟨i, List.mem_range.2 hi, e.symm⟩)
  simpa using this
theorem rem_fact {n len j : Nat} (hj : j < len) (hn : n < len) : ((n : Int) + (len : Int) - (j : Int)) % (len : Int) = (((n + len - j) % len : Nat) : Int) := by
  rw [show (n : Int) + (len : Int) - (j : Int) = ((n + len - j : Nat) : Int) by omega]
  rfl
set_option maxHeartbeats 6400000 in
theorem any_walk (oa : Option Addr) (len cap b o : Nat) (S : Nat → R) (tu ag : Int) (w : World) (hr : RowQ w oa len cap b o S) (wt : (Lit.int .u8 tu).wf = true) (wa : (Lit.int .u8 ag).wf = true) :
    Calls Tryz.prog 6 #[.slice oa len cap, .int .u8 tu, .int .u8 ag] w fun e w' => e = .returned (.bool true) ∧ Kept w w' := by
  have hz2 := zero27
  have hl1 := hr.1
  have hl2 := hr.2.1
  unfold maxLen at hl2
  obtain ⟨tb0, tb1⟩ := bounds_u8 wt
  obtain ⟨ab0, ab1⟩ := bounds_u8 wa
  obtain ⟨tN, rfl⟩ : ∃ tN : Nat, tu = (tN : Int) := ⟨tu.toNat, by omega⟩
  obtain ⟨aN, rfl⟩ : ∃ aN : Nat, ag = (aN : Int) := ⟨ag.toNat, by omega⟩
  have HR0 := hid hr
  clear hr wt wa
  by_cases h60 : 60 < len
  · have g60 : (60 : Int) < (len : Int) := by omega
    go_enter Tryz.func6, Tryz.ntmps6
    go_wp2_with fail
    refine (fixed_any _).mono ?_
    rintro e w1 ⟨rfl, k1⟩
    go_wp2_with fail
    go_ret
    exact ⟨rfl, k1⟩
  have g60 : decide ((60 : Int) < (len : Int)) = false := by simp; omega
  by_cases h00 : len = 0
  · subst h00
    go_enter Tryz.func6, Tryz.ntmps6
    go_wp2_with fail
    refine (fixed_any _).mono ?_
    rintro e w1 ⟨rfl, k1⟩
    go_wp2_with fail
    go_ret
    exact ⟨rfl, k1⟩
  have g00 : ((len : Int) == 0) = false := by simp; omega
  obtain ⟨rfl, hb⟩ := HR0.out.2.2.2.1 (by omega)
  go_enter Tryz.func6, Tryz.ntmps6
  go_wp2_with fail
  refine (show Calls Tryz.prog 9 #[.int .i64 64, .int .i64 1048576, .int .i64 1000] _ _ from snew_any anyC anyC_may _).mono ?_
  rintro e w1 ⟨X, F, rfl, k1, hF, h1⟩
  have HF1 := hid hF
  have HK1 := hid k1
  have HS1 := hid h1
  clear k1 hF h1
  go_wp2_with fail
  refine (show Calls Tryz.prog 9 #[.int .i64 64, .int .i64 1048576, .int .i64 1000] _ _ from snew_any anyC anyC_may _).mono ?_
  rintro e w1b ⟨X2, G, rfl, k1b, hG, h1b⟩
  have HG1 : Hid (∀ k, G k → w.heap.size ≤ k) := hid (fun k hk => Nat.le_trans HK1.out.2 (hG k hk))
  have HD1 : Hid (∀ k, F k → ¬ G k) := hid (fun k hf hg => by have := st_low HS1.out k hf; have := hG k hg; omega)
  have HK1b := hid (kept_trans HK1.out k1b)
  have HS1b := hid (st_kept HS1.out k1b)
  have HT1b := hid h1b
  clear k1b hG h1b HK1 HS1
  go_wp2_with fail
  refine (fixed_any _).mono ?_
  rintro e w2 ⟨rfl, k2⟩
  have HK2 := hid (kept_trans HK1b.out k2)
  have HS2 := hid (st_kept HS1b.out k2)
  have HT2 := hid (st_kept HT1b.out k2)
  clear k2 HK1b HS1b HT1b
  go_wp2_with fail
  go_loopw [47] (fun i wr => ∃ j : Nat, j ≤ len ∧ i = .int .i64 (j : Int) ∧ Hid (∀ i, i < j → (S i).key.size ≤ 1000 ∧ (S i).body.size ≤ 3000) ∧ Hid (Kept w2 wr)) (fun i _ => len - (intOf i).toNat)
  case atStart => exact ⟨0, Nat.zero_le _, rfl, hid (fun i hi => absurd hi (by omega)), hid (kept_refl w2)⟩
  case round =>
    obtain ⟨j, hj, rfl, HN, HKj⟩ := hrel
    by_cases hlt : j < len
    · obtain ⟨qok, c0, c1, c2, c3, c4, c5, c6, c7⟩ := (rowq_kept HR0.out (kept_trans HK2.out HKj.out)).2.2.2.2 j hlt
      have ks1 := qok.1
      have ks2 := qok.2.2.2.2.2
      unfold maxLen at ks1 ks2
      obtain ⟨q, hq⟩ : ∃ q, S j = q := ⟨_, rfl⟩
      rw [hq] at c0 c1 c2 c3 c4 c5 c6 c7 ks1 ks2
      have HQ := hid hq
      clear qok hq
      by_cases e2 : 1000 < q.key.size
      · have e3 : (1000 : Int) < (q.key.size : Int) := by omega
        clear e2
        have HKe := hid (kept_trans HK2.out (kept_alloc HKj.out (.cells #[.string q.key, .int .u64 q.s.p, .int .u32 q.s.l, .int .u8 q.s.n, .int .u8 q.kind, .int .u32 q.flags, .int .u64 q.exp, .string q.body] 42)))
        go_wp2_with fail
        go_ret
        exact ⟨rfl, HKe.out⟩
      · have e3 : decide ((1000 : Int) < (q.key.size : Int)) = false := by simp; omega
        by_cases e4 : 3000 < q.body.size
        · have e5 : (3000 : Int) < (q.body.size : Int) := by omega
          clear e2 e4
          have HKe := hid (kept_trans HK2.out (kept_alloc HKj.out (.cells #[.string q.key, .int .u64 q.s.p, .int .u32 q.s.l, .int .u8 q.s.n, .int .u8 q.kind, .int .u32 q.flags, .int .u64 q.exp, .string q.body] 42)))
          go_wp2_with fail
          go_ret
          exact ⟨rfl, HKe.out⟩
        · have e5 : ¬ (3000 : Int) < (q.body.size : Int) := by omega
          have HN2 : Hid (∀ i, i < j + 1 → (S i).key.size ≤ 1000 ∧ (S i).body.size ≤ 3000) := hid (fun i hi => by
            rcases (show i < j ∨ i = j by omega) with h | h
            · exact HN.out i h
            · rw [h, HQ.out]; omega)
          have HK3 := hid (kept_alloc HKj.out (.cells #[.string q.key, .int .u64 q.s.p, .int .u32 q.s.l, .int .u8 q.s.n, .int .u8 q.kind, .int .u32 q.flags, .int .u64 q.exp, .string q.body] 42))
          clear e2 e4
          go_wp2_with fail
          go_roundw
          case rel => exact ⟨j + 1, by omega, by go_num, HN2, HK3⟩
          case measure => simp [intOf]; omega
    · have hje : j = len := by omega
      subst hje
      have HK3 := hid (kept_trans HK2.out HKj.out)
      have HS3 := hid (st_kept HS2.out HKj.out)
      have HT3 := hid (st_kept HT2.out HKj.out)
      obtain ⟨n, hn⟩ : ∃ n, tN % j = n := ⟨_, rfl⟩
      have hnl : n < j := by rw [← hn]; exact Nat.mod_lt _ (by omega)
      have hrem0 : (tN : Int) % (j : Int) = (n : Int) := by rw [← hn]; rfl
      have HInA : Hid (∀ x, inA S 0 x ↔ False) := hid (fun x => by unfold inA; simp)
      clear HK2 HS2 HT2 HKj hn
      go_wp2_with fail
      rw [hrem0]
      clear hrem0
      go_loopw [14, 69] (fun _ i wr => ∃ (m : Nat) (F G : Nat → Prop) (sa sb : MS), m ≤ j ∧ i = .int .i64 (m : Int) ∧ Hid (St wr F X anyC sa) ∧ Hid (St wr G X2 anyC sb) ∧ Hid (∀ k, F k → w.heap.size ≤ k) ∧ Hid (∀ k, G k → w.heap.size ≤ k) ∧ Hid (∀ k, F k → ¬ G k) ∧ Hid (Kept w wr) ∧ Hid (Fit anyC sa ∧ Any (inA S m) sa ∧ sa.ev + sa.L.length ≤ m) ∧ Hid (Fit anyC sb ∧ Any (inB S n j aN m) sb ∧ sb.ev + sb.L.length ≤ 2 * m)) (fun _ i _ => j - (intOf i).toNat)
      case atStart => exact ⟨0, F, G, MS0, MS0, Nat.zero_le _, rfl, HS3, HT3, HF1, HG1, HD1, HK3, hid ⟨fit_new, any_congr any_new (fun x => by unfold inA; simp), by simp [MS0]⟩, hid ⟨fit_new, any_congr any_new (fun x => by unfold inB; simp), by simp [MS0]⟩⟩
      case round =>
        clear HS3 HT3 HF1 HG1 HD1 HK3 HInA
        obtain ⟨m, F, G, sa, sb, hm, rfl, HS, HT, HF, HG, HD, HK, HA, HB⟩ := hrel
        by_cases hlt2 : m < j
        · obtain ⟨qok, c0, c1, c2, c3, c4, c5, c6, c7⟩ := (rowq_kept HR0.out HK.out).2.2.2.2 m hlt2
          have hqs := HN.out m hlt2
          obtain ⟨q, hq⟩ : ∃ q, S m = q := ⟨_, rfl⟩
          rw [hq] at c0 c1 c2 c3 c4 c5 c6 c7 hqs qok
          have HQ := hid hq
          have HQok := hid qok
          have hLa : sa.L.length ≤ j := any_len HA.out.2.1 HA.out.1.keys (S := S) (fun x hx => by obtain ⟨i, hi, e⟩ := hx; exact ⟨i, by omega, e⟩)
          have hLb : sb.L.length ≤ j := any_len HB.out.2.1 HB.out.1.keys (S := S) (fun x hx => by
            rcases hx with ⟨i, hi, e⟩ | ⟨i, hi, _, e⟩
            · exact ⟨_, back_lt (by omega), e⟩
            · exact ⟨i, by omega, e⟩)
          have hea : sa.ev ≤ 900000000 := by have := HA.out.2.2; omega
          have hPut := put_any anyC_may q hqs.1 hqs.2 HQok.out 0 (by omega) hea wr HS.out
          have HA2 : Hid (Fit anyC (putS anyC sa q 0) ∧ Any (inA S (m + 1)) (putS anyC sa q 0) ∧ (putS anyC sa q 0).ev + (putS anyC sa q 0).L.length ≤ m + 1) := hid ⟨fit_put anyC_may HA.out.1 HQok.out, any_congr (any_put HA.out.2.1 HA.out.1 anyC_may rfl rfl (by omega) q HQok.out) (fun x => by rw [← HQ.out]; exact inA_next S m x), by have := put_count anyC_may sa q 0; have := HA.out.2.2; omega⟩
          clear hq qok HA
          go_wp2_with fail
          refine hPut.mono ?_
          rintro e w5 ⟨rfl, F5, t5, h5⟩
          generalize putS anyC sa q 0 = sa2 at *
          have HS5 := hid h5
          have HT5 := hid (st_tn HT.out t5.1 (fun k hk hf => HD.out k hf hk))
          have HK5 := hid (kept_tn HK.out HF.out t5.1)
          have HF5 := hid (stp_low t5 HF.out HK.out)
          have HD5 : Hid (∀ k, F5 k → ¬ G k) := hid (two_put HD.out t5 (st_low HT.out))
          clear t5 h5 HS HT HK HF HD hPut c0 c1 c2 c3 c4 c5 c6 c7
          -- the other store
          have hrem := rem_fact hlt2 hnl
          obtain ⟨mb, hmb⟩ : ∃ mb, (n + j - m) % j = mb := ⟨_, rfl⟩
          have hmbl : mb < j := by rw [← hmb]; exact back_lt (by omega)
          rw [hmb] at hrem
          obtain ⟨pok, c0, c1, c2, c3, c4, c5, c6, c7⟩ := (rowq_kept HR0.out HK5.out).2.2.2.2 mb hmbl
          have hps := HN.out mb hmbl
          obtain ⟨p, hp⟩ : ∃ p, S mb = p := ⟨_, rfl⟩
          rw [hp] at c0 c1 c2 c3 c4 c5 c6 c7 hps pok
          have HPok := hid pok
          have HP := hid (And.intro hmb hp)
          have heb : sb.ev ≤ 900000000 := by have := HB.out.2.2; omega
          have hPut := put_any anyC_may p hps.1 hps.2 HPok.out 0 (by omega) heb w5 HT5.out
          have HB2 : Hid (Fit anyC (putS anyC sb p 0) ∧ Any (fun x => inB S n j aN m x ∨ x = S ((n + j - m) % j)) (putS anyC sb p 0) ∧ (putS anyC sb p 0).ev + (putS anyC sb p 0).L.length ≤ 2 * m + 1) := hid ⟨fit_put anyC_may HB.out.1 HPok.out, any_congr (any_put HB.out.2.1 HB.out.1 anyC_may rfl rfl (by omega) p HPok.out) (fun x => by rw [HP.out.1, HP.out.2]), by have := put_count anyC_may sb p 0; have := HB.out.2.2; omega⟩
          clear hp pok HB hmb hLb heb
          have b1 : (n : Int) ≤ 100 := by omega
          have b2 : (m : Int) ≤ 100 := by omega
          have b3 : (j : Int) ≤ 100 := by omega
          go_wp2_with fail
          refine hPut.mono ?_
          rintro e w6 ⟨rfl, G6, t6, h6⟩
          generalize putS anyC sb p 0 = sb2 at *
          have HT6 := hid h6
          have HS6 := hid (st_tn HS5.out t6.1 (fun k hk hg => HD5.out k hk hg))
          have HK6 := hid (kept_tn HK5.out HG.out t6.1)
          have HG6 := hid (stp_low t6 HG.out HK5.out)
          have HD6 : Hid (∀ k, F5 k → ¬ G6 k) := hid (two_put2 HD5.out t6 (st_low HS5.out))
          clear t6 h6 HS5 HT5 HK5 HG HD5 hPut c0 c1 c2 c3 c4 c5 c6 c7 hrem
          by_cases hag : m < aN
          · have hag2 : (m : Int) < (aN : Int) := by omega
            obtain ⟨qok, c0, c1, c2, c3, c4, c5, c6, c7⟩ := (rowq_kept HR0.out HK6.out).2.2.2.2 m hlt2
            rw [HQ.out] at c0 c1 c2 c3 c4 c5 c6 c7
            have hLb2 : sb2.L.length ≤ j := any_len HB2.out.2.1 HB2.out.1.keys (S := S) (fun x hx => by
              rcases hx with (⟨i, hi, e⟩ | ⟨i, hi, _, e⟩) | e
              · exact ⟨_, back_lt (by omega), e⟩
              · exact ⟨i, by omega, e⟩
              · exact ⟨_, back_lt (by omega), e⟩)
            have heb : sb2.ev ≤ 900000000 := by have := HB2.out.2.2; omega
            have hPut := put_any anyC_may q hqs.1 hqs.2 HQok.out 0 (by omega) heb w6 HT6.out
            have HB3 : Hid (Fit anyC (putS anyC sb2 q 0) ∧ Any (inB S n j aN (m + 1)) (putS anyC sb2 q 0) ∧ (putS anyC sb2 q 0).ev + (putS anyC sb2 q 0).L.length ≤ 2 * (m + 1)) := hid ⟨fit_put anyC_may HB2.out.1 HQok.out, any_congr (any_put HB2.out.2.1 HB2.out.1 anyC_may rfl rfl (by omega) q HQok.out) (fun x => by
              rw [← HQ.out]
              unfold inB
              constructor
              · rintro (((⟨i, hi, e⟩ | ⟨i, hi, h2, e⟩) | e) | e)
                · exact .inl ⟨i, by omega, e⟩
                · exact .inr ⟨i, by omega, h2, e⟩
                · exact .inl ⟨m, by omega, e⟩
                · exact .inr ⟨m, by omega, hag, e⟩
              · rintro (⟨i, hi, e⟩ | ⟨i, hi, h2, e⟩)
                · rcases (show i < m ∨ i = m by omega) with g | g
                  · exact .inl (.inl (.inl ⟨i, g, e⟩))
                  · subst g; exact .inl (.inr e)
                · rcases (show i < m ∨ i = m by omega) with g | g
                  · exact .inl (.inl (.inr ⟨i, g, h2, e⟩))
                  · subst g; exact .inr e), by have := put_count anyC_may sb2 q 0; have := HB2.out.2.2; omega⟩
            clear qok HB2
            go_wp2_with fail
            refine hPut.mono ?_
            rintro e w7 ⟨rfl, G7, t7, h7⟩
            generalize putS anyC sb2 q 0 = sb3 at *
            have HT7 := hid h7
            have HS7 := hid (st_tn HS6.out t7.1 (fun k hk hg => HD6.out k hk hg))
            have HK7 := hid (kept_tn HK6.out HG6.out t7.1)
            have HG7 := hid (stp_low t7 HG6.out HK6.out)
            have HD7 : Hid (∀ k, F5 k → ¬ G7 k) := hid (two_put2 HD6.out t7 (st_low HS6.out))
            clear t7 h7 HS6 HT6 HK6 HG6 HD6 hPut c0 c1 c2 c3 c4 c5 c6 c7
            go_wp2_with fail
            go_roundw
            case rel => exact ⟨m + 1, F5, G7, sa2, sb3, by omega, by go_num, HS7, HT7, HF5, HG7, HD7, HK7, HA2, HB3⟩
            case measure => simp [intOf]; omega
          · have hag2 : ¬ (m : Int) < (aN : Int) := by omega
            have HB3 : Hid (Fit anyC sb2 ∧ Any (inB S n j aN (m + 1)) sb2 ∧ sb2.ev + sb2.L.length ≤ 2 * (m + 1)) := hid ⟨HB2.out.1, any_congr HB2.out.2.1 (fun x => by
              unfold inB
              constructor
              · rintro ((⟨i, hi, e⟩ | ⟨i, hi, h2, e⟩) | e)
                · exact .inl ⟨i, by omega, e⟩
                · exact .inr ⟨i, by omega, h2, e⟩
                · exact .inl ⟨m, by omega, e⟩
              · rintro (⟨i, hi, e⟩ | ⟨i, hi, h2, e⟩)
                · rcases (show i < m ∨ i = m by omega) with g | g
                  · exact .inl (.inl ⟨i, g, e⟩)
                  · subst g; exact .inr e
                · rcases (show i < m ∨ i = m by omega) with g | g
                  · exact .inl (.inr ⟨i, g, h2, e⟩)
                  · subst g; exact absurd h2 hag), by have := HB2.out.2.2; omega⟩
            clear HB2
            go_wp2_with fail
            go_roundw
            case rel => exact ⟨m + 1, F5, G6, sa2, sb2, by omega, by go_num, HS6, HT6, HF5, HG6, HD6, HK6, HA2, HB3⟩
            case measure => simp [intOf]; omega
        · have hme : m = j := by omega
          subst hme
          have hperm : sa.L.Perm sb.L := perm_mem (keys_nodup HA.out.1.keys) (keys_nodup HB.out.1.keys) (fun x => ⟨any_same HA.out.2.1 HB.out.2.1 (fun y => in_same hnl y) HA.out.1.keys HB.out.1.keys x, any_same HB.out.2.1 HA.out.2.1 (fun y => (in_same hnl y).symm) HB.out.1.keys HA.out.1.keys x⟩)
          have HPm := hid hperm
          have hLa : sa.L.length ≤ 500 := by have := HA.out.2.2; omega
          have hLe := hperm.length_eq
          have hLb : sb.L.length ≤ 500 := by omega
          obtain ⟨wo, hwo⟩ : ∃ wo, wo = wr := ⟨_, rfl⟩
          rw [← hwo] at HS HT HK
          have HWo := hid hwo
          have HKa := hid HA.out.1.keys
          clear hwo HA HB hperm HN HR0
          go_wp2_with fail
          go_loopw [15, 16, 17, 103] (fun _ _ _ i wr => ∃ kk : Nat, kk ≤ 64 ∧ i = .int .i64 (kk : Int) ∧ Hid (Kept wo wr)) (fun _ _ _ i _ => 64 - (intOf i).toNat)
          case atStart => exact ⟨0, by omega, rfl, hid (by rw [HWo.out]; exact kept_refl wr)⟩
          case round =>
            clear HWo
            obtain ⟨kk, hkk, rfl, HKk⟩ := hrel
            have HSk := hid (st_kept HS.out HKk.out)
            have HTk := hid (st_kept HT.out HKk.out)
            by_cases hk64 : kk < 64
            · go_wp2_with fail
              refine (range_st anyC_may (kk : Int) hLa _ HSk.out).mono ?_
              rintro e w6 ⟨v1, rfl, k6, r1⟩
              have HS6 := hid (st_kept HSk.out k6)
              have HT6 := hid (st_kept HTk.out k6)
              have HK6 := hid (kept_trans HKk.out k6)
              have HR6 := hid r1
              clear k6 r1 HSk HTk HKk
              go_wp2_with fail
              refine (range_st anyC_may (kk : Int) hLb _ HT6.out).mono ?_
              rintro e w7 ⟨v2, rfl, k7, r2⟩
              rw [← range_of HKa.out HPm.out] at r2
              have hsame := same_any (rangeL (kk : Int) sa.L) (by
                have h1 := (range_perm (k := (kk : Int)) HKa.out).length_eq
                have h2 := List.length_filter_le (inR (kk : Int)) sa.L
                omega) v1 v2 w7 (rdr_kept HR6.out k7) r2
              have HS7 := hid (st_kept HS6.out k7)
              have HT7 := hid (st_kept HT6.out k7)
              have HK7 := hid (kept_trans HK6.out k7)
              clear k7 r2 HS6 HT6 HK6 HR6
              go_wp2_with fail
              refine hsame.mono ?_
              rintro e w8 ⟨rfl, k8⟩
              have HS8 := hid (st_kept HS7.out k8)
              have HT8 := hid (st_kept HT7.out k8)
              have HK8 := hid (kept_trans HK7.out k8)
              clear k8 HS7 HT7 HK7 hsame
              have hdg : digL kk sa.L = digL kk sb.L := digL_perm kk HPm.out
              go_wp2_with fail
              refine (dig_st kk hk64 _ HS8.out).mono ?_
              rintro e w9 ⟨rfl, rfl⟩
              go_wp2_with fail
              refine (dig_st kk hk64 _ HT8.out).mono ?_
              rintro e w10 ⟨rfl, rfl⟩
              have hne : ((digL kk sa.L : Int) != (digL kk sb.L : Int)) = false := by rw [hdg]; simp
              clear HS8 HT8
              generalize digL kk sb.L = dd at *
              generalize digL kk sa.L = de at *
              subst hdg
              go_wp2_with fail
              go_roundw
              case rel => exact ⟨kk + 1, by omega, by go_num, HK8⟩
              case measure => simp [intOf]; omega
            · go_wp2_with fail
              refine (len_st _ HSk.out).mono ?_
              rintro e w6 ⟨rfl, rfl⟩
              go_wp2_with fail
              refine (len_st _ HTk.out).mono ?_
              rintro e w7 ⟨rfl, rfl⟩
              rw [← hLe]
              have HKe := hid (kept_trans HK.out HKk.out)
              clear HSk HTk HKk
              go_wp2_with fail
              go_ret
              exact ⟨by simp, HKe.out⟩
end Go.Proofs.YthgbdaladngpdaaGreat
