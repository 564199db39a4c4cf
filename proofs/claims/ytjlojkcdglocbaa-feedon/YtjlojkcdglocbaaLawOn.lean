/- The statement FeedOn's walk: true of any row of texts and any text; nothing is turned. -/
import Derived.Test.YtjlojkcdglocbaaFeedTwo
import Derived.Test.YtjlojkcdglocbaaRefParse
namespace Go.Proofs.Ytjlojkcdglocbaa
open Go.ChangeShapes Go.WideShapes Go.ChangeAt Go.RowKit
set_option linter.unusedVariables false
set_option linter.unusedSimpArgs false

theorem on_math (L : List UInt8) (h10 : (10 : UInt8) ∉ L) (h : 2048 < L.length ∨ ((lineC L).1.kind = 8 ∧ (lineC L).2 < 0)) : ∃ t, runB (.line []) (L ++ [10]) = ([t], .line []) ∧ t.c.kind = 8 := by
  by_cases hl : 2048 < L.length
  · have hne : L.drop 2048 ≠ [] := by intro e; have := congrArg List.length e; simp at this; omega
    obtain ⟨b, r, hbr⟩ := List.exists_cons_of_ne_nil hne
    obtain ⟨x, hL, hxl⟩ : ∃ x, L = x ++ b :: r ∧ x.length = 2048 := ⟨L.take 2048, by rw [← hbr, List.take_append_drop], by simp; omega⟩
    subst hL
    have hx : (10 : UInt8) ∉ x := fun e => h10 (by simp [e])
    have hb : b ≠ 10 := fun e => h10 (by simp [e])
    have hrm : (10 : UInt8) ∉ r := fun e => h10 (by simp [e])
    refine ⟨⟨bad rLong, mt⟩, ?_, rfl⟩
    rw [show x ++ b :: r ++ [10] = x ++ b :: (r ++ [10]) from by simp, run_line_long x [] _ b hx hb (by simpa using hxl), run_rest_end r [] hrm]
    rfl
  · rcases h with h | ⟨h8, hd⟩
    · exact absurd h hl
    · refine ⟨⟨(lineC L).1, mt⟩, ?_, h8⟩
      rw [run_line_end L [] [] h10 (by simp; omega), List.nil_append]
      have : saidBy (lineC L) = ([⟨(lineC L).1, mt⟩], .line []) := by
        unfold saidBy
        rw [if_neg (by omega), if_neg (by omega), if_neg (by omega)]
      rw [this]
      rfl
theorem index_run (s : ByteArray) (j : Nat) (h : j < s.data.toList.length) (w : World) : (Instr.index 9 (.string s) (.int .i64 (j : Int))).run Try.prog w = .ok (.int .u8 (s.data.toList[j].toNat : Int)) w := by
  obtain ⟨⟨l⟩⟩ := s
  rw [run_index_string w 9 _ .i64 (j : Int) Try.underlying9, dif_pos ⟨by omega, by rw [size_list]; exact Int.ofNat_lt.2 h⟩]
  rfl
theorem init_ok : okS (.line []) := by simp [okS]
theorem ne_ten (b : UInt8) : ((b.toNat : Int) == 10) = decide (b = 10) := by
  rw [Bool.eq_iff_iff]
  simp only [beq_iff_eq, decide_eq_true_eq]
  constructor
  · intro e; exact UInt8.toNat_inj.1 (by show b.toNat = 10; omega)
  · rintro rfl; rfl
theorem ne_cr (b : UInt8) : ((b.toNat : Int) == 13) = decide (b = 13) := by
  rw [Bool.eq_iff_iff]
  simp only [beq_iff_eq, decide_eq_true_eq]
  constructor
  · intro e; exact UInt8.toNat_inj.1 (by show b.toNat = 13; omega)
  · rintro rfl; rfl
theorem last_at (l : List UInt8) (h : l.length - 1 < l.length) : l.getLast? = some l[l.length - 1] := by
  rw [List.getLast?_eq_getElem?, List.getElem?_eq_getElem h]
set_option maxHeartbeats 3200000 in
set_option maxRecDepth 100000 in
theorem on_main (oa : Option Addr) (len cap b o : Nat) (S : Nat → ByteArray) (s : ByteArray) (w : World) (hr : Row w oa len b o (fun i => .string (S i))) (hl : len ≤ 20) (hs : s.size ≤ 5000) :
    Calls Try.prog 5 #[.slice oa len cap, .string s] w fun e w' => e = .returned (.bool true) ∧ Kept w w' := by
  have HR := hid hr
  have HN5 := hid hs
  have hb : ¬ (5000 : Int) < (s.size : Int) := by omega
  have hb2 : ¬ (20 : Int) < (len : Int) := by omega
  have HL20 := hid hl
  obtain ⟨W, hW⟩ : ∃ W, W = w.heap.size := ⟨_, rfl⟩
  have HW : Hid (w.heap.size = W) := hW.symm
  clear hW hr hs hl
  go_enter Try.func5, Try.ntmps5
  go_wp2_with fail
  refine (new_fresh W w (by have := HW.out; omega)).mono ?_
  rintro e w1 ⟨F, rfl, hF, fF, hk1⟩
  have HfF := hid fF
  have HK1 := hid hk1
  clear hF fF hk1
  go_wp2_with fail
  refine (new_fresh W w1 (by have := HW.out; have := HK1.out.2; omega)).mono ?_
  rintro e w2 ⟨G, rfl, hG, fG, hk2⟩
  have HG0 : Hid (G ≠ F) := by have := at_lt HfF.out.2; show _ ≠ _; omega
  have HfG := hid fG
  have HfF2 := hid (fresh_kept HfF.out hk2)
  have HK2 := hid (kept_trans HK1.out hk2)
  clear hG fG hk2 HfF HK1
  go_wp2_with fail
  clear hb hb2
  go_loopw [28] (fun v28 wr => ∃ (k : Nat) (f : Fd), k ≤ len ∧ v28 = .int .i64 (k : Int) ∧ Hid (FeedAt W wr F f) ∧ Hid (okF f) ∧ Hid (absF f = .line []) ∧ Hid (FreshAt W wr G) ∧ Hid (Kept w wr)) (fun v28 wr => len - (intOf v28).toNat)
  case atStart => exact ⟨0, fresh, Nat.zero_le _, rfl, fresh_feed HfF2.out, fresh_ok, rfl, HfG, HK2⟩
  case round =>
    clear HfF2 HfG HK2
    obtain ⟨k, f, hk, rfl, HFd, HOk, HAb, HfG, HK⟩ := hrel
    have HFB := hid (feed_at HFd.out).1
    by_cases hlt : k < len
    · have hRk := row_kept HR.out HK.out
      have hc : wr.cell? ⟨b, o + k, none⟩ = some (.string (S k)) := hRk.2.2 k hlt
      obtain ⟨hoa, hbl⟩ := hRk.2.1 (by omega)
      have h2 : (k : Int) < (len : Int) := by omega
      have hk20 : k < 20 := by have := HL20.out; omega
      clear hRk
      generalize S k = L at *
      subst hoa
      by_cases hbig : 3000 < L.size
      · have hb : (3000 : Int) < (L.size : Int) := by omega
        clear hbig
        go_wp2_with fail
        refine (fixed_any _).mono ?_
        rintro e w5 ⟨rfl, hk5⟩
        have HK5 := hid (kept_trans HK.out hk5)
        clear hk5
        go_wp2_with fail
        go_ret
        exact ⟨rfl, HK5.out⟩
      · have hb : ¬ (3000 : Int) < (L.size : Int) := by omega
        obtain ⟨m, hm⟩ : ∃ m, m = L.size := ⟨_, rfl⟩
        have HM : Hid (L.size = m) := hm.symm
        have HML : Hid (L.data.toList.length = m) := by show _ = _; rw [← size_list]; exact HM.out
        have hm3 : m ≤ 3000 := by omega
        clear hbig
        obtain ⟨wx, hwx⟩ : ∃ x, x = wr := ⟨_, rfl⟩
        subst hwx
        go_wp2_with fail
        rw [← hm]
        clear hb hm
        go_loopw [38] (fun v38 wq => ∃ j : Nat, j ≤ m ∧ v38 = .int .i64 (j : Int) ∧ Hid (∀ q (h : q < L.data.toList.length), q < j → L.data.toList[q] ≠ 10) ∧ Hid (wq = wx)) (fun v38 wq => m - (intOf v38).toNat)
        case atStart => exact ⟨0, Nat.zero_le _, rfl, fun q _ hq => absurd hq (by omega), rfl⟩
        case round =>
          obtain ⟨j, hj, rfl, HQ, hwq⟩ := hrel
          have hwe := hwq.out
          subst hwe
          clear hwq
          by_cases hjm : j < m
          · have hjL : j < L.data.toList.length := by rw [HML.out]; exact hjm
            have hi := index_run L j hjL
            have hte := ne_ten L.data.toList[j]
            by_cases hten : L.data.toList[j] = 10
            · rw [show decide (L.data.toList[j] = 10) = true from decide_eq_true hten] at hte
              clear hten
              generalize L.data.toList[j].toNat = y at *
              go_wp2_with fail
              refine (fixed_any _).mono ?_
              rintro e w5 ⟨rfl, hk5⟩
              have HK5 := hid (kept_trans HK.out hk5)
              clear hk5
              go_wp2_with fail
              go_ret
              exact ⟨rfl, HK5.out⟩
            · rw [show decide (L.data.toList[j] = 10) = false from decide_eq_false hten] at hte
              have HQ2 : Hid (∀ q (h : q < L.data.toList.length), q < j + 1 → L.data.toList[q] ≠ 10) := fun q h hq => by
                rcases (show q < j ∨ q = j by omega) with h1 | rfl
                · exact HQ.out q h h1
                · exact hten
              clear hten
              generalize L.data.toList[j].toNat = y at *
              go_wp2_with fail
              go_roundw
              case rel => exact ⟨j + 1, by omega, by go_num, HQ2, by first | exact hid trivial | exact hid rfl⟩
              case measure => simp [intOf]; omega
          · have he : m = j := by omega
            subst he
            have h10 : (10 : UInt8) ∉ L.data.toList := fun e => by
              obtain ⟨q, hq, hqe⟩ := List.getElem_of_mem e
              exact HQ.out q hq (by rw [HML.out] at hq; omega) hqe
            have hPC := fun w => RefParse_any (ba (trimR L.data.toList)) (by have h1 := trimR_le L.data.toList; rw [size_list, ba_list]; have := HML.out; omega) w
            unfold PC at hPC
            have hM := on_math L.data.toList h10
            rw [show parseC (words (ba (trimR L.data.toList))) = lineC L.data.toList from rfl] at hPC
            generalize lineC L.data.toList = cd at *
            obtain ⟨c, d⟩ := cd
            simp only at hPC hM
            rw [HML.out] at hM
            have HMath := hid hM
            have HLl : Hid ((L ++ ⟨#[10]⟩).data.toList = L.data.toList ++ [10]) := app_list _ _
            have HLz : Hid ((L ++ ⟨#[10]⟩).size ≤ 4294967296) := by show _ ≤ _; rw [size_list, HLl.out]; have h1 := HML.out; have h2 := HM.out; simp; omega
            have hLm : L.size = m := HM.out
            clear hM h10 HQ
            by_cases hm0 : m = 0
            · have hT : ba (trimR L.data.toList) = L := by
                have : L.data.toList = [] := List.length_eq_zero_iff.1 (by rw [HML.out]; exact hm0)
                rw [this]
                exact (ext_ba this).symm
              rw [hT] at hPC
              have HP := hid hPC
              have hq0 : ¬ (0 : Int) < (m : Int) := by omega
              clear hPC hT hm0
              go_wp2_with fail
              refine (HP.out _).mono ?_
              rintro e w3 ⟨kv, rfl, hkv, hk3⟩
              obtain ⟨ka, km, kc, rfl⟩ := keys_slice hkv
              have HKp : Hid (Kept wr (w3.alloc (.cells #[.int .i64 c.kind, .slice ka km kc, .int .u32 c.flags, .int .i64 c.exp, .string ⟨#[]⟩, .bool c.quiet, .string c.reply] 38))) := kept_alloc hk3 _
              have hz := zero26
              clear hkv hk3 HP
              by_cases hm2 : m ≤ 2048
              · have hm2' : (m : Int) ≤ 2048 := by omega
                by_cases hk8 : c.kind = 8
                · have hk8' : (c.kind != 8) = false := by simp [hk8]
                  by_cases hd0 : 0 ≤ d
                  · clear hm2 hk8
                    go_wp2_with fail
                    refine (fixed_any _).mono ?_
                    rintro e w5 ⟨rfl, hk5⟩
                    have HK5 := hid (kept_trans (kept_trans HK.out HKp.out) hk5)
                    clear hk5
                    go_wp2_with fail
                    go_ret
                    exact ⟨rfl, HK5.out⟩
                  · have hcond : Hid (c.kind = 8 ∧ d < 0) := ⟨hk8, by omega⟩
                    clear hk8 hm2
                    obtain ⟨td, hrun, htk⟩ := HMath.out (.inr hcond.out)
                    have HRun := hid hrun
                    have HTk := hid htk
                    clear hrun htk
                    go_wp2_with fail
                    have HTake := hid (Take_any W F f HOk.out _ HLz.out _ (feed_kept HFd.out HKp.out))
                    refine HTake.out.mono ?_
                    clear HTake
                    rintro e w6 ⟨v6, f6, rfl, r6, g6, o6, a6, t6⟩
                    rw [HAb.out, HLl.out, HRun.out] at r6 a6
                    obtain ⟨A6, cap6, rfl, p6, -⟩ := row_one r6
                    rw [HTk.out] at p6
                    have HG6 := hid g6
                    have HO6 := hid o6
                    have HA6 := hid a6
                    have HfG6 := hid (fresh_fr (fresh_kept HfG.out HKp.out) t6 HG0.out)
                    have HK6 := hid (kept_fr (kept_trans HK.out HKp.out) HW.out HFB.out t6)
                    clear r6 g6 o6 a6 t6 HFd HOk HAb HfG HK HKp
                    go_wp2_with fail
                    go_roundw
                    case rel => exact ⟨k + 1, f6, by omega, by go_num, HG6, HO6, HA6, HfG6, HK6⟩
                    case measure => simp [intOf]; omega
                · have hk8' : (c.kind != 8) = true := by simp [hk8]
                  clear hm2 hk8
                  go_wp2_with fail
                  refine (fixed_any _).mono ?_
                  rintro e w5 ⟨rfl, hk5⟩
                  have HK5 := hid (kept_trans (kept_trans HK.out HKp.out) hk5)
                  clear hk5
                  go_wp2_with fail
                  go_ret
                  exact ⟨rfl, HK5.out⟩
              · have hm2' : ¬ (m : Int) ≤ 2048 := by omega
                have hm3 : Hid (2048 < m) := by show _ < _; omega
                clear hm2
                exact absurd hm3.out (by omega)
            · have hq0 : (0 : Int) < (m : Int) := by omega
              have hlt1 : L.data.toList.length - 1 < L.data.toList.length := by rw [HML.out]; omega
              have hcast : ((L.data.toList.length - 1 : Nat) : Int) = (m : Int) - 1 := by rw [HML.out]; omega
              have hi := index_run L (L.data.toList.length - 1) hlt1
              rw [hcast] at hi
              have hte := ne_cr (L.data.toList[L.data.toList.length - 1])
              have hlast := last_at L.data.toList hlt1
              by_cases h13 : L.data.toList[L.data.toList.length - 1] = 13
              · rw [show decide (L.data.toList[L.data.toList.length - 1] = 13) = true from decide_eq_true h13] at hte
                have hT : ba (trimR L.data.toList) = L.extract 0 (m - 1) := by
                  refine (ext_ba ?_).symm
                  rw [ex_list]
                  unfold trimR
                  rw [if_pos (by rw [hlast, h13]), List.dropLast_eq_take, HML.out]
                  simp
                have hsl : ∀ u, (Instr.slice 9 (.string L) none (some (.int .i64 ((m : Int) - 1))) none).run Try.prog u = .ok (.string (ba (trimR L.data.toList))) u := fun u => by
                  rw [hT]
                  have := run_slice_string_h (P := Try.prog) u 9 L Try.underlying9 .i64 ((m : Int) - 1) (by omega) (by omega)
                  rw [show ((m : Int) - 1).toNat = m - 1 by omega] at this
                  exact this
                have HP := hid hPC
                generalize L.data.toList[L.data.toList.length - 1].toNat = y at *
                clear hPC hT hm0 h13 hlast hcast
                generalize ba (trimR L.data.toList) = T at *
                go_wp2_with fail
                refine (HP.out _).mono ?_
                rintro e w3 ⟨kv, rfl, hkv, hk3⟩
                obtain ⟨ka, km, kc, rfl⟩ := keys_slice hkv
                have HKp : Hid (Kept wr (w3.alloc (.cells #[.int .i64 c.kind, .slice ka km kc, .int .u32 c.flags, .int .i64 c.exp, .string ⟨#[]⟩, .bool c.quiet, .string c.reply] 38))) := kept_alloc hk3 _
                have hz := zero26
                clear hkv hk3 HP
                by_cases hm2 : m ≤ 2048
                · have hm2' : (m : Int) ≤ 2048 := by omega
                  by_cases hk8 : c.kind = 8
                  · have hk8' : (c.kind != 8) = false := by simp [hk8]
                    by_cases hd0 : 0 ≤ d
                    · clear hm2 hk8
                      go_wp2_with fail
                      refine (fixed_any _).mono ?_
                      rintro e w5 ⟨rfl, hk5⟩
                      have HK5 := hid (kept_trans (kept_trans HK.out HKp.out) hk5)
                      clear hk5
                      go_wp2_with fail
                      go_ret
                      exact ⟨rfl, HK5.out⟩
                    · have hcond : Hid (c.kind = 8 ∧ d < 0) := ⟨hk8, by omega⟩
                      clear hk8 hm2
                      obtain ⟨td, hrun, htk⟩ := HMath.out (.inr hcond.out)
                      have HRun := hid hrun
                      have HTk := hid htk
                      clear hrun htk
                      go_wp2_with fail
                      have HTake := hid (Take_any W F f HOk.out _ HLz.out _ (feed_kept HFd.out HKp.out))
                      refine HTake.out.mono ?_
                      clear HTake
                      rintro e w6 ⟨v6, f6, rfl, r6, g6, o6, a6, t6⟩
                      rw [HAb.out, HLl.out, HRun.out] at r6 a6
                      obtain ⟨A6, cap6, rfl, p6, -⟩ := row_one r6
                      rw [HTk.out] at p6
                      have HG6 := hid g6
                      have HO6 := hid o6
                      have HA6 := hid a6
                      have HfG6 := hid (fresh_fr (fresh_kept HfG.out HKp.out) t6 HG0.out)
                      have HK6 := hid (kept_fr (kept_trans HK.out HKp.out) HW.out HFB.out t6)
                      clear r6 g6 o6 a6 t6 HFd HOk HAb HfG HK HKp
                      go_wp2_with fail
                      go_roundw
                      case rel => exact ⟨k + 1, f6, by omega, by go_num, HG6, HO6, HA6, HfG6, HK6⟩
                      case measure => simp [intOf]; omega
                  · have hk8' : (c.kind != 8) = true := by simp [hk8]
                    clear hm2 hk8
                    go_wp2_with fail
                    refine (fixed_any _).mono ?_
                    rintro e w5 ⟨rfl, hk5⟩
                    have HK5 := hid (kept_trans (kept_trans HK.out HKp.out) hk5)
                    clear hk5
                    go_wp2_with fail
                    go_ret
                    exact ⟨rfl, HK5.out⟩
                · have hm2' : ¬ (m : Int) ≤ 2048 := by omega
                  have hm3 : Hid (2048 < m) := by show _ < _; omega
                  clear hm2
                  obtain ⟨td, hrun, htk⟩ := HMath.out (.inl hm3.out)
                  have HRun := hid hrun
                  have HTk := hid htk
                  clear hrun htk
                  go_wp2_with fail
                  have HTake := hid (Take_any W F f HOk.out _ HLz.out _ (feed_kept HFd.out HKp.out))
                  refine HTake.out.mono ?_
                  clear HTake
                  rintro e w6 ⟨v6, f6, rfl, r6, g6, o6, a6, t6⟩
                  rw [HAb.out, HLl.out, HRun.out] at r6 a6
                  obtain ⟨A6, cap6, rfl, p6, -⟩ := row_one r6
                  rw [HTk.out] at p6
                  have HG6 := hid g6
                  have HO6 := hid o6
                  have HA6 := hid a6
                  have HfG6 := hid (fresh_fr (fresh_kept HfG.out HKp.out) t6 HG0.out)
                  have HK6 := hid (kept_fr (kept_trans HK.out HKp.out) HW.out HFB.out t6)
                  clear r6 g6 o6 a6 t6 HFd HOk HAb HfG HK HKp
                  go_wp2_with fail
                  go_roundw
                  case rel => exact ⟨k + 1, f6, by omega, by go_num, HG6, HO6, HA6, HfG6, HK6⟩
                  case measure => simp [intOf]; omega
              · rw [show decide (L.data.toList[L.data.toList.length - 1] = 13) = false from decide_eq_false h13] at hte
                have hT : ba (trimR L.data.toList) = L := by
                  unfold trimR
                  rw [if_neg (by rw [hlast]; intro e; exact h13 (by injection e)), ba_data]
                rw [hT] at hPC
                have HP := hid hPC
                generalize L.data.toList[L.data.toList.length - 1].toNat = y at *
                clear hPC hT hm0 h13 hlast hcast
                go_wp2_with fail
                refine (HP.out _).mono ?_
                rintro e w3 ⟨kv, rfl, hkv, hk3⟩
                obtain ⟨ka, km, kc, rfl⟩ := keys_slice hkv
                have HKp : Hid (Kept wr (w3.alloc (.cells #[.int .i64 c.kind, .slice ka km kc, .int .u32 c.flags, .int .i64 c.exp, .string ⟨#[]⟩, .bool c.quiet, .string c.reply] 38))) := kept_alloc hk3 _
                have hz := zero26
                clear hkv hk3 HP
                by_cases hm2 : m ≤ 2048
                · have hm2' : (m : Int) ≤ 2048 := by omega
                  by_cases hk8 : c.kind = 8
                  · have hk8' : (c.kind != 8) = false := by simp [hk8]
                    by_cases hd0 : 0 ≤ d
                    · clear hm2 hk8
                      go_wp2_with fail
                      refine (fixed_any _).mono ?_
                      rintro e w5 ⟨rfl, hk5⟩
                      have HK5 := hid (kept_trans (kept_trans HK.out HKp.out) hk5)
                      clear hk5
                      go_wp2_with fail
                      go_ret
                      exact ⟨rfl, HK5.out⟩
                    · have hcond : Hid (c.kind = 8 ∧ d < 0) := ⟨hk8, by omega⟩
                      clear hk8 hm2
                      obtain ⟨td, hrun, htk⟩ := HMath.out (.inr hcond.out)
                      have HRun := hid hrun
                      have HTk := hid htk
                      clear hrun htk
                      go_wp2_with fail
                      have HTake := hid (Take_any W F f HOk.out _ HLz.out _ (feed_kept HFd.out HKp.out))
                      refine HTake.out.mono ?_
                      clear HTake
                      rintro e w6 ⟨v6, f6, rfl, r6, g6, o6, a6, t6⟩
                      rw [HAb.out, HLl.out, HRun.out] at r6 a6
                      obtain ⟨A6, cap6, rfl, p6, -⟩ := row_one r6
                      rw [HTk.out] at p6
                      have HG6 := hid g6
                      have HO6 := hid o6
                      have HA6 := hid a6
                      have HfG6 := hid (fresh_fr (fresh_kept HfG.out HKp.out) t6 HG0.out)
                      have HK6 := hid (kept_fr (kept_trans HK.out HKp.out) HW.out HFB.out t6)
                      clear r6 g6 o6 a6 t6 HFd HOk HAb HfG HK HKp
                      go_wp2_with fail
                      go_roundw
                      case rel => exact ⟨k + 1, f6, by omega, by go_num, HG6, HO6, HA6, HfG6, HK6⟩
                      case measure => simp [intOf]; omega
                  · have hk8' : (c.kind != 8) = true := by simp [hk8]
                    clear hm2 hk8
                    go_wp2_with fail
                    refine (fixed_any _).mono ?_
                    rintro e w5 ⟨rfl, hk5⟩
                    have HK5 := hid (kept_trans (kept_trans HK.out HKp.out) hk5)
                    clear hk5
                    go_wp2_with fail
                    go_ret
                    exact ⟨rfl, HK5.out⟩
                · have hm2' : ¬ (m : Int) ≤ 2048 := by omega
                  have hm3 : Hid (2048 < m) := by show _ < _; omega
                  clear hm2
                  obtain ⟨td, hrun, htk⟩ := HMath.out (.inl hm3.out)
                  have HRun := hid hrun
                  have HTk := hid htk
                  clear hrun htk
                  go_wp2_with fail
                  have HTake := hid (Take_any W F f HOk.out _ HLz.out _ (feed_kept HFd.out HKp.out))
                  refine HTake.out.mono ?_
                  clear HTake
                  rintro e w6 ⟨v6, f6, rfl, r6, g6, o6, a6, t6⟩
                  rw [HAb.out, HLl.out, HRun.out] at r6 a6
                  obtain ⟨A6, cap6, rfl, p6, -⟩ := row_one r6
                  rw [HTk.out] at p6
                  have HG6 := hid g6
                  have HO6 := hid o6
                  have HA6 := hid a6
                  have HfG6 := hid (fresh_fr (fresh_kept HfG.out HKp.out) t6 HG0.out)
                  have HK6 := hid (kept_fr (kept_trans HK.out HKp.out) HW.out HFB.out t6)
                  clear r6 g6 o6 a6 t6 HFd HOk HAb HfG HK HKp
                  go_wp2_with fail
                  go_roundw
                  case rel => exact ⟨k + 1, f6, by omega, by go_num, HG6, HO6, HA6, HfG6, HK6⟩
                  case measure => simp [intOf]; omega
    · have he : k = len := by omega
      subst he
      have HTl := hid (HAb.out ▸ tells_of HFd.out HOk.out)
      go_wp2_with fail
      refine (fixed_any _).mono ?_
      rintro e w5 ⟨rfl, hk5⟩
      have HF5 := hid (feed_kept HFd.out hk5)
      have HG5 := hid (fresh_kept HfG.out hk5)
      have HK5 := hid (kept_trans HK.out hk5)
      clear hk5 HfG HK HFd HTl
      go_wp2_with fail
      refine (Take_any W F f HOk.out s (by have := HN5.out; omega) _ HF5.out).mono ?_
      rintro e w6 ⟨v6, f6, rfl, r6, g6, o6, a6, t6⟩
      rw [HAb.out] at r6 a6
      have HR6 := hid r6
      have HT6 := hid (a6 ▸ tells_of g6 o6)
      have HG6 := hid (fresh_fr HG5.out t6 HG0.out)
      have HK6 := hid (kept_fr HK5.out HW.out HFB.out t6)
      clear r6 a6 g6 o6 t6 HF5 HG5 HK5 HAb HOk
      go_wp2_with fail
      refine (Take_any W G fresh fresh_ok s (by have := HN5.out; omega) _ (fresh_feed HG6.out)).mono ?_
      rintro e w7 ⟨v7, f7, rfl, r7, g7, o7, a7, t7⟩
      rw [fresh_abs] at r7 a7
      obtain ⟨-, ⟨csG, hGA⟩, hGT⟩ := feed_at (fresh_feed HG6.out)
      have HA7 := hid (roww_row (rowc_fr HR6.out t7 hGA hGT))
      have HB7 := hid (roww_row r7)
      have HTf7 := hid (tells_fr HT6.out t7 (fun e => HG0.out e.symm))
      have HTg7 := hid (a7 ▸ tells_of g7 o7)
      have HK7 := hid (kept_fr HK6.out HW.out HG6.out.1 t7)
      have HFew := hid (run_ok s.data.toList init_ok)
      clear r7 g7 o7 a7 t7 hGA hGT HR6 HT6 HG6 HK6
      go_wp2_with fail
      refine (sameAll_any _ HFew.out.2.1 (by have h1 := HFew.out.2.2; have h2 := size_list s; have h3 := HN5.out; omega) _ _ _ HA7.out HB7.out).mono ?_
      rintro e w8 ⟨rfl, hk8⟩
      have HTf8 := hid (tells_kept HTf7.out hk8)
      have HTg8 := hid (tells_kept HTg7.out hk8)
      have HK8 := hid (kept_trans HK7.out hk8)
      clear hk8 HTf7 HTg7 HK7 HA7 HB7 HFew
      generalize (runB (.line []) s.data.toList).2 = σ at *
      go_wp2_with fail
      refine (held_tells HTf8.out).mono ?_
      rintro e wz ⟨rfl, hw⟩
      rw [hw]; clear hw wz
      go_wp2_with fail
      refine (held_tells HTg8.out).mono ?_
      rintro e wz ⟨rfl, hw⟩
      rw [hw]; clear hw wz
      have hhe : ((heldS σ : Int) == (heldS σ : Int)) = true := by simp
      go_wp2_with fail
      go_ret
      exact ⟨rfl, HK8.out⟩
end Go.Proofs.Ytjlojkcdglocbaa
