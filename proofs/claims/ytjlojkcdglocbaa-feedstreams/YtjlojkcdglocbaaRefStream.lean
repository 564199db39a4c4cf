/- The contract of the reference's Stream: it tells what the plain machine tells of the whole text, and how it stands behind it. The text has at most 20,000 bytes. -/
import Derived.Test.YtjlojkcdglocbaaRefFeed
namespace Go.Proofs.Ytjlojkcdglocbaa
open Go.ChangeShapes Go.WideShapes Go.ChangeAt Go.RowKit
set_option linter.unusedVariables false
set_option linter.unusedSimpArgs false

def StreamC (s : ByteArray) (w : World) (e : Ending) (w' : World) : Prop := ∃ v, e = .returned (.tuple #[v, .int .i64 (heldS (runB (.line []) s.data.toList).2 : Int), .bool (overS (runB (.line []) s.data.toList).2)]) ∧ RowW w' v (runB (.line []) s.data.toList).1 ∧ Kept w w'
theorem stream_end {s : ByteArray} {w w' : World} {B : Nat} {v : Value} {ps : List (Td × Value)} {h : Nat} {o : Bool} (hr : RowS B w' v ps) (hd : Done s.data.toList (ps.map Prod.fst) h o) (hk : Kept w w') : StreamC s w (.returned (.tuple #[v, .int .i64 (h : Int), .bool o])) w' := by
  obtain ⟨d1, d2, d3⟩ := hd
  exact ⟨v, by rw [d2, d3], by rw [d1]; exact roww_own rfl hr.1 hr.2.1, hk⟩
theorem init_ok : okS (.line []) := by simp [okS]
theorem ne_cr (b : UInt8) : ((b.toNat : Int) == 13) = decide (b = 13) := by
  rw [Bool.eq_iff_iff]
  simp only [beq_iff_eq, decide_eq_true_eq]
  constructor
  · intro e; exact UInt8.toNat_inj.1 (by show b.toNat = 13; omega)
  · rintro rfl; rfl
theorem last_at (l : List UInt8) (h : l.length - 1 < l.length) : l.getLast? = some l[l.length - 1] := by
  rw [List.getLast?_eq_getElem?, List.getElem?_eq_getElem h]
theorem slice_run (s : ByteArray) (i j : Nat) (h1 : i ≤ j) (h2 : j ≤ s.size) (u : World) : (Instr.slice 9 (.string s) (some (.int .i64 (i : Int))) (some (.int .i64 (j : Int))) none).run Try.prog u = .ok (.string (s.extract i j)) u := by
  have := run_slice_string (P := Try.prog) u 9 s .i64 .i64 (i : Int) (j : Int) Try.underlying9 (by omega) (by omega) (by omega)
  simpa using this
theorem slice_sum (s : ByteArray) (n d : Nat) (h : n + 1 + d ≤ s.size) (u : World) : (Instr.slice 9 (.string s) (some (.int .i64 ((n : Int) + 1))) (some (.int .i64 ((n : Int) + 1 + (d : Int)))) none).run Try.prog u = .ok (.string (s.extract (n + 1) (n + 1 + d))) u := by
  have := slice_run s (n + 1) (n + 1 + d) (by omega) h u
  rw [show ((n + 1 : Nat) : Int) = (n : Int) + 1 by omega, show ((n + 1 + d : Nat) : Int) = (n : Int) + 1 + (d : Int) by omega] at this
  exact this
theorem feedEnd_sum (s : ByteArray) (n d : Nat) (h : n + 1 + d ≤ s.size) (hs : s.size ≤ 20000) (w : World) : Calls Try.prog 18 #[.string s, .int .i64 ((n : Int) + 1 + (d : Int))] w fun e w' => ∃ k : Nat, e = .returned (.int .i64 (k : Int)) ∧ FE s.data.toList (n + 1 + d) k ∧ w' = w := by
  have := feedEnd_any s (n + 1 + d) h hs w
  rw [show ((n + 1 + d : Nat) : Int) = (n : Int) + 1 + (d : Int) by omega] at this
  exact this
theorem app_long : (⟨#[67, 76, 73, 69, 78, 84, 95, 69, 82, 82, 79, 82, 32, 108, 105, 110, 101, 32, 116, 111, 111, 32, 108, 111, 110, 103]⟩ : ByteArray) ++ ⟨#[13, 10]⟩ = rLong := by apply ByteArray.ext; simp [rLong]
theorem app_chunk : (⟨#[67, 76, 73, 69, 78, 84, 95, 69, 82, 82, 79, 82, 32, 98, 97, 100, 32, 100, 97, 116, 97, 32, 99, 104, 117, 110, 107]⟩ : ByteArray) ++ ⟨#[13, 10]⟩ = rChunk := by apply ByteArray.ext; simp [rChunk]
theorem Bad_long (w : World) : Calls Try.prog 19 #[.string ⟨#[67, 76, 73, 69, 78, 84, 95, 69, 82, 82, 79, 82, 32, 108, 105, 110, 101, 32, 116, 111, 111, 32, 108, 111, 110, 103]⟩] w fun e w' => e = .returned (.agg #[.int .i64 8, .slice none 0 0, .int .u32 0, .int .i64 0, .string ⟨#[]⟩, .bool false, .string rLong]) ∧ Kept w w' := by
  rw [← app_long]; exact Bad_any _ (by decide) w
theorem Bad_chunk (w : World) : Calls Try.prog 19 #[.string ⟨#[67, 76, 73, 69, 78, 84, 95, 69, 82, 82, 79, 82, 32, 98, 97, 100, 32, 100, 97, 116, 97, 32, 99, 104, 117, 110, 107]⟩] w fun e w' => e = .returned (.agg #[.int .i64 8, .slice none 0 0, .int .u32 0, .int .i64 0, .string ⟨#[]⟩, .bool false, .string rChunk]) ∧ Kept w w' := by
  rw [← app_chunk]; exact Bad_any _ (by decide) w
set_option maxHeartbeats 12800000 in
set_option maxRecDepth 100000 in
theorem stream_any (s : ByteArray) (hs20 : s.size ≤ 20000) (w : World) : Calls Try.prog 11 #[.string s] w (StreamC s w) := by
  have hz := zero26
  obtain ⟨W, hW⟩ : ∃ W, W = w.heap.size := ⟨_, rfl⟩
  have HW : Hid (w.heap.size = W) := hW.symm
  have HRow0 : Hid (RowS W (w.alloc (.cells #[] 38)) (.slice (some ⟨w.heap.size, 0, none⟩) 0 0) []) := rows_made w (by omega)
  have HK0 : Hid (Kept w (w.alloc (.cells #[] 38))) := kept_alloc (kept_refl w) _
  clear hW
  go_enter Try.func11, Try.ntmps11
  go_wp2_with fail
  go_loopw [5, 6] (fun v5 v6 wr => ∃ (i : Nat) (ps : List (Td × Value)), v6 = .int .i64 (i : Int) ∧ Hid (RowS W wr v5 ps) ∧ Hid (Stand s.data.toList i (ps.map Prod.fst) ∨ (i = s.size + 1 ∧ Done s.data.toList (ps.map Prod.fst) 0 false)) ∧ Hid (Kept w wr)) (fun v5 v6 wr => s.size + 1 - (intOf v6).toNat)
  case atStart => exact ⟨0, [], rfl, HRow0, hid (.inl (stand_0 _)), HK0⟩
  case round =>
    clear HRow0 HK0
    obtain ⟨i, ps, rfl, HRow, HSt, HK⟩ := hrel
    by_cases hi : i < s.size
    · have HStd : Hid (Stand s.data.toList i (ps.map Prod.fst)) := by
        rcases HSt.out with h | ⟨h, -⟩
        · exact h
        · omega
      have HLen : Hid (ps.length ≤ 20000) := by
        have h1 := (run_ok (s.data.toList.take i) init_ok).2.2
        rw [HStd.out.2] at h1
        simp at h1
        show _ ≤ _
        omega
      have hi' : (i : Int) < (s.size : Int) := by omega
      clear HSt
      go_wp2_with fail
      refine (feedEnd_any s i (by omega) hs20 _).mono ?_
      rintro e w1 ⟨n, rfl, hfe, hw1⟩
      rw [hw1]; clear hw1 w1
      have hin : i ≤ n := hfe.1
      have hns : n ≤ s.size := by rw [size_list]; exact hfe.2.1
      have HFe := hid hfe
      clear hfe
      by_cases hlong : 2048 < n - i
      · have hlong' : (2048 : Int) < (n : Int) - (i : Int) := by omega
        have HTl := hid (th_long HStd.out HFe.out hlong)
        clear hlong
        go_wp2_with fail
        refine (Bad_long _).mono ?_
        rintro e w6 ⟨rfl, hk6⟩
        obtain ⟨v5, w5, hap, hrow5, hkp5, -, -, -, -⟩ := rows_push (rows_kept HRow.out hk6) ⟨bad rLong, mt⟩ (.slice none 0 0) (keys_nil _) (by have := HW.out; have := HK.out.2; have := hk6.2; omega) (by have h1 := HLen.out; omega)
        have HAp := hid hap
        have HRow5 := hid hrow5
        have HKe5 := hid (hkp5 (kept_trans HK.out hk6) (by have := HW.out; omega))
        have HSt6 : Hid (Stand s.data.toList (n + 1) ((ps ++ [(Td.mk (bad rLong) mt, Value.slice none 0 0)]).map Prod.fst) ∨ (n + 1 = s.size + 1 ∧ Done s.data.toList ((ps ++ [(Td.mk (bad rLong) mt, Value.slice none 0 0)]).map Prod.fst) 0 false)) := by
          rw [List.map_append]
          by_cases he : n = s.size
          · exact .inr ⟨by omega, HTl.out.2 (by have hq := size_list s; omega)⟩
          · exact .inl (HTl.out.1 (by have hq := size_list s; omega))
        clear hap hrow5 hkp5 hk6 HTl
        go_wp2_with (at_builtin; refine wpList_run rfl (.tmp 23) (.tmp 25) 26 26 rfl _ _ v5 rfl rfl HAp.out ?_)
        go_roundw
        case rel => exact ⟨n + 1, _, by go_num, HRow5, HSt6, HKe5⟩
        case measure => simp [intOf]; omega
      have hlong' : ¬ (2048 : Int) < (n : Int) - (i : Int) := by omega
      by_cases hend : n = s.size
      · have hend' : ((n : Int) == (s.size : Int)) = true := by simp [hend]
        have HDn := hid (th_end HStd.out HFe.out (by omega) (by have hq := size_list s; omega))
        have HHeld : Hid ((n : Int) - (i : Int) = ((n - i : Nat) : Int)) := by show _ = _; omega
        clear hend hlong
        go_wp2_with fail
        rw [HHeld.out]
        go_ret3
        exact stream_end HRow.out HDn.out HK.out
      have hend' : ((n : Int) == (s.size : Int)) = false := by simp; omega
      have hnlt : n < s.size := by omega
      have HAf := hid (th_line HStd.out HFe.out (by omega) (by have hq := size_list s; omega))
      have hFits := fits_line (mid s.data.toList i n)
      have hlm : (mid s.data.toList i n).length = n - i := mid_length _ hin HFe.out.2.1
      have hslc := slice_run s i n hin hns
      have hLl : (s.extract i n).data.toList = mid s.data.toList i n := ex_list s i n
      have hPC := fun w => RefParse_any (ba (trimR (mid s.data.toList i n))) (by have h1 := trimR_le (mid s.data.toList i n); rw [size_list, ba_list]; omega) w
      unfold PC at hPC
      rw [show parseC (words (ba (trimR (mid s.data.toList i n)))) = lineC (mid s.data.toList i n) from rfl] at hPC
      have HX := hid (And.intro HStd.out HFe.out)
      generalize lineC (mid s.data.toList i n) = cd at *
      obtain ⟨c, d⟩ := cd
      simp only at hPC
      have HFits := hid hFits
      have hLm : (s.extract i n).size = n - i := by rw [size_list, hLl, hlm]
      generalize s.extract i n = L at *
      rw [← hLl] at hPC hlm
      obtain ⟨m, hm⟩ : ∃ m, m = n - i := ⟨_, rfl⟩
      rw [← hm] at hLm hlm
      have HML := hid hlm
      have hm2 : m ≤ 2048 := by omega
      clear hend hlong HStd HFe hFits hlm hm
      by_cases hm0 : m = 0
      · have hT : ba (trimR L.data.toList) = L := by
          have : L.data.toList = [] := List.length_eq_zero_iff.1 (by rw [HML.out]; exact hm0)
          rw [this]
          exact (ext_ba this).symm
        rw [hT] at hPC
        have HP := hid hPC
        have hq0 : ¬ (0 : Int) < (m : Int) := by omega
        clear hPC hT hm0 hLl
        go_wp2_with fail
        refine (HP.out _).mono ?_
        rintro e w3 ⟨kv, rfl, hkv, hk3⟩
        obtain ⟨ka, km, kc, rfl⟩ := keys_slice hkv
        have hRow3 := rows_kept HRow.out hk3
        have hK3 := kept_trans HK.out hk3
        have hB3 : W ≤ w3.heap.size := by have := HW.out; have := hK3.2; omega
        clear hk3 HP HRow HK
        by_cases hd : d < 0
        · have hlt3 : ∀ g, u5.ownBlock = some g → g < w3.heap.size := fun g hg => (own_lt hRow3.1 hg).2
          have hKp : Kept w3 (w3.alloc (.cells #[.int .i64 c.kind, .slice ka km kc, .int .u32 c.flags, .int .i64 c.exp, .string ⟨#[]⟩, .bool c.quiet, .string c.reply] 38)) := kept_alloc (kept_refl w3) _
          have hA9 : At (w3.alloc (.cells #[.int .i64 c.kind, .slice ka km kc, .int .u32 c.flags, .int .i64 c.exp, .string ⟨#[]⟩, .bool c.quiet, .string c.reply] 38)) w3.heap.size #[.int .i64 c.kind, .slice ka km kc, .int .u32 c.flags, .int .i64 c.exp, .string ⟨#[]⟩, .bool c.quiet, .string c.reply] 38 := at_new _ _ _
          obtain ⟨v4, w4, hap, hrow4, hkp4, hat4, -, -, -⟩ := rows_push (rows_kept hRow3 hKp) ⟨c, mt⟩ (.slice ka km kc) (keys_kept hkv hKp) (Nat.le_trans hB3 hKp.2) (by have h1 := HLen.out; omega)
          rw [World.size_alloc] at hap
          have HAp := hid hap
          have HRow4 := hid hrow4
          have HKe := hid (hkp4 (kept_trans hK3 hKp) (by have := HW.out; omega))
          obtain ⟨e0, e1, e2, e3, e4, e5, e6, ef⟩ := at_cells7 (hat4 hA9 (fun e => by have := hlt3 _ e; omega))
          clear hap hrow4 hkp4 hat4 hA9 hKp hlt3 hRow3 hK3 hB3 hkv
          by_cases h7 : c.kind = 7
          · have h7' : (c.kind == 7) = true := by simp [h7]
            have HDn : Hid (Done s.data.toList ((ps ++ [(Td.mk c mt, Value.slice ka km kc)]).map Prod.fst) 0 true) := by
              have h1 := HAf.out
              rw [said_quit h7] at h1
              rw [List.map_append]
              exact th_quit h1 (by have hq := size_list s; omega)
            clear h7
            go_wp2_with (at_builtin; refine wpList_run rfl (.tmp 66) (.tmp 68) 26 26 rfl _ _ v4 rfl rfl HAp.out ?_)
            go_ret3
            exact stream_end HRow4.out HDn.out HKe.out
          · have h7' : (c.kind == 7) = false := by simp [h7]
            have HSt4 : Hid (Stand s.data.toList (n + 1) ((ps ++ [(Td.mk c mt, Value.slice ka km kc)]).map Prod.fst)) := by
              have h1 := HAf.out
              rw [said_plain HFits.out h7 hd] at h1
              rw [List.map_append]
              exact ⟨by have hq := size_list s; omega, h1⟩
            clear h7
            go_wp2_with (at_builtin; refine wpList_run rfl (.tmp 66) (.tmp 68) 26 26 rfl _ _ v4 rfl rfl HAp.out ?_)
            go_roundw
            case rel => exact ⟨n + 1, _, by go_num, HRow4, hid (.inl HSt4.out), HKe⟩
            case measure => simp [intOf]; omega
        obtain ⟨dn, hdn⟩ : ∃ dn : Nat, d = (dn : Int) := ⟨d.toNat, by omega⟩
        subst hdn
        have hdb : dn ≤ 4294967295 := by have h1 := HFits.out.1; simp only at h1; omega
        have hd' : ¬ (dn : Int) < 0 := by omega
        clear hd
        by_cases h8 : c.kind = 8
        · have h8' : (c.kind == 8) = true := by simp [h8]
          have h8n : (c.kind != 8) = false := by simp [h8]
          have hAf := HAf.out
          rw [said_bad h8] at hAf
          have HAf := hid hAf
          clear hAf h8
          have hlt3 : ∀ g, u5.ownBlock = some g → g < w3.heap.size := fun g hg => (own_lt hRow3.1 hg).2
          have hKp : Kept w3 (w3.alloc (.cells #[.int .i64 c.kind, .slice ka km kc, .int .u32 c.flags, .int .i64 c.exp, .string ⟨#[]⟩, .bool c.quiet, .string c.reply] 38)) := kept_alloc (kept_refl w3) _
          have hA9 : At (w3.alloc (.cells #[.int .i64 c.kind, .slice ka km kc, .int .u32 c.flags, .int .i64 c.exp, .string ⟨#[]⟩, .bool c.quiet, .string c.reply] 38)) w3.heap.size #[.int .i64 c.kind, .slice ka km kc, .int .u32 c.flags, .int .i64 c.exp, .string ⟨#[]⟩, .bool c.quiet, .string c.reply] 38 := at_new _ _ _
          obtain ⟨v4, w4, hap, hrow4, hkp4, hat4, -, -, hpl4⟩ := rows_push (rows_kept hRow3 hKp) ⟨c, mt⟩ (.slice ka km kc) (keys_kept hkv hKp) (Nat.le_trans hB3 hKp.2) (by have h1 := HLen.out; omega)
          rw [World.size_alloc] at hap hpl4
          have HAp := hid hap
          have HRow4 := hid hrow4
          have HKe := hid (hkp4 (kept_trans hK3 hKp) (by have := HW.out; omega))
          have HX4 := hid (hat4 hA9 (fun e => by have := hlt3 _ e; omega))
          have HPl : Hid (v4.ownBlock ≠ some w3.heap.size) := fun e => by
            rcases hpl4 _ e with h | h
            · have := hlt3 _ h; omega
            · omega
          have HX9 : Hid (w.heap.size ≤ w3.heap.size) := by have := HW.out; show _ ≤ _; omega
          clear hap hrow4 hkp4 hat4 hA9 hKp hlt3 hRow3 hK3 hB3 hkv hpl4
          obtain ⟨e0, e1, e2, e3, e4, e5, e6, ef⟩ := at_cells7 HX4.out
          by_cases hsh : s.size - (n + 1) < dn
          · have hsh' : (s.size : Int) - ((n : Int) + 1) < (dn : Int) := by omega
            have HDn : Hid (Done s.data.toList ((ps ++ [(Td.mk c mt, Value.slice ka km kc)]).map Prod.fst) 0 false) := by
              rw [List.map_append]
              exact th_pass_short HAf.out (by have hq := size_list s; omega) (by have hq := size_list s; omega)
            clear hsh
            go_wp2_with (at_builtin; refine wpList_run rfl (.tmp 77) (.tmp 79) 26 26 rfl _ _ v4 rfl rfl HAp.out ?_)
            go_ret3
            exact stream_end HRow4.out HDn.out HKe.out
          · have hsh' : ¬ (s.size : Int) - ((n : Int) + 1) < (dn : Int) := by omega
            have HPs := hid (th_pass HAf.out (by have hq := size_list s; omega : n + 1 + dn ≤ s.data.toList.length))
            have hsl := slice_sum s n dn (by omega)
            have HFE2 := hid (feedEnd_sum s n dn (by omega) hs20)
            have HRow5 := hid (rows_set (o := 4) (x := .string (s.extract (n + 1) (n + 1 + dn))) HRow4.out HPl.out (fun y => by rw [at_cell HX4.out 0]; simp))
            have HKe5 := hid (kept_set HKe.out HX9.out 4 (.string (s.extract (n + 1) (n + 1 + dn))))
            have hdn2 : dn ≤ 20000 := by omega
            clear hsh
            go_wp2_with (at_builtin; refine wpList_run rfl (.tmp 77) (.tmp 79) 26 26 rfl _ _ v4 rfl rfl HAp.out ?_)
            refine (HFE2.out _).mono ?_
            rintro e w5 ⟨n2, rfl, hfe2, hw5⟩
            rw [hw5]; clear hw5 w5
            have hn2 : n2 ≤ s.size := by rw [size_list]; exact hfe2.2.1
            have hn2' : n + 1 + dn ≤ n2 := hfe2.1
            have HTp := hid (th_pass_end HPs.out hfe2)
            clear hfe2 HFE2
            by_cases he2 : n2 = s.size
            · have he2' : ((n2 : Int) == (s.size : Int)) = true := by simp [he2]
              have HDn : Hid (Done s.data.toList ((ps ++ [(Td.mk c mt, Value.slice ka km kc)]).map Prod.fst) 0 false) := by
                rw [List.map_append]
                exact HTp.out.1 (by have hq := size_list s; omega)
              clear he2
              go_wp2_with fail
              go_ret3
              exact stream_end HRow5.out HDn.out HKe5.out
            · have he2' : ((n2 : Int) == (s.size : Int)) = false := by simp; omega
              have HSt5 : Hid (Stand s.data.toList (n2 + 1) ((ps ++ [(Td.mk c mt, Value.slice ka km kc)]).map Prod.fst)) := by
                rw [List.map_append]
                exact HTp.out.2 (by have hq := size_list s; omega)
              clear he2
              go_wp2_with fail
              go_roundw
              case rel => exact ⟨n2 + 1, _, by go_num, HRow5, hid (.inl HSt5.out), HKe5⟩
              case measure => simp [intOf]; omega
        · have h8' : (c.kind == 8) = false := by simp [h8]
          have h8n : (c.kind != 8) = true := by simp [h8]
          have hAf := HAf.out
          rw [said_set (kind_set HFits.out h8), List.append_nil] at hAf
          have HAf := hid hAf
          clear hAf h8
          by_cases hsh : s.size - (n + 1) < dn
          · have hsh' : (s.size : Int) - ((n : Int) + 1) < (dn : Int) := by omega
            have HDn : Hid (Done s.data.toList (ps.map Prod.fst) (s.size - (n + 1)) false) := by
              rw [size_list]
              exact th_data_short HAf.out (by have hq := size_list s; omega) (by have hq := size_list s; omega)
            have hKp : Kept w3 (w3.alloc (.cells #[.int .i64 c.kind, .slice ka km kc, .int .u32 c.flags, .int .i64 c.exp, .string ⟨#[]⟩, .bool c.quiet, .string c.reply] 38)) := kept_alloc (kept_refl w3) _
            have HRow4 := hid (rows_kept hRow3 hKp)
            have HKe := hid (kept_trans hK3 hKp)
            have HHeld : Hid ((s.size : Int) - ((n : Int) + 1) = ((s.size - (n + 1) : Nat) : Int)) := by show _ = _; omega
            clear hsh hKp hRow3 hK3 hB3 hkv
            go_wp2_with fail
            rw [HHeld.out]
            go_ret3
            exact stream_end HRow4.out HDn.out HKe.out
          · have hsh' : ¬ (s.size : Int) - ((n : Int) + 1) < (dn : Int) := by omega
            have HDt := hid (th_data HAf.out (by have hq := size_list s; omega : n + 1 + dn ≤ s.data.toList.length))
            have hsl := slice_sum s n dn (by omega)
            have HFE2 := hid (feedEnd_sum s n dn (by omega) hs20)
            have HMl : Hid ((mid s.data.toList (n + 1) (n + 1 + dn)).length = dn) := by show _ = _; rw [mid_length _ (by omega) (by have hq := size_list s; omega)]; omega
            have HBd : Hid (ba (mid s.data.toList (n + 1) (n + 1 + dn)) = s.extract (n + 1) (n + 1 + dn)) := (ext_ba (by rw [ex_list]; rfl)).symm
            generalize s.extract (n + 1) (n + 1 + dn) = bd at *
            have hKp : Kept w3 (w3.alloc (.cells #[.int .i64 c.kind, .slice ka km kc, .int .u32 c.flags, .int .i64 c.exp, .string bd, .bool c.quiet, .string c.reply] 38)) := kept_alloc (kept_refl w3) _
            have HRow4 := hid (rows_kept hRow3 hKp)
            have HKe := hid (kept_trans hK3 hKp)
            have HX4 := hid (at_new w3 #[.int .i64 c.kind, .slice ka km kc, .int .u32 c.flags, .int .i64 c.exp, .string bd, .bool c.quiet, .string c.reply] 38)
            have HKy := hid (keys_kept hkv hKp)
            have HB4 : Hid (W ≤ (w3.alloc (.cells #[.int .i64 c.kind, .slice ka km kc, .int .u32 c.flags, .int .i64 c.exp, .string bd, .bool c.quiet, .string c.reply] 38)).heap.size) := Nat.le_trans hB3 hKp.2
            have hdn2 : dn ≤ 20000 := by omega
            clear hsh hKp hRow3 hK3 hB3 hkv
            go_wp2_with fail
            refine (HFE2.out _).mono ?_
            rintro e w5 ⟨n2, rfl, hfe2, hw5⟩
            rw [hw5]; clear hw5 w5
            have hn2 : n2 ≤ s.size := by rw [size_list]; exact hfe2.2.1
            have hn2' : n + 1 + dn ≤ n2 := hfe2.1
            have HTd := hid (th_data_end HDt.out hfe2)
            have HM1 := hid (mid_one hfe2.1 hfe2.2.1)
            clear hfe2 HFE2
            generalize w3.alloc (.cells #[.int .i64 c.kind, .slice ka km kc, .int .u32 c.flags, .int .i64 c.exp, .string bd, .bool c.quiet, .string c.reply] 38) = w4 at *
            generalize w3.heap.size = X at *
            obtain ⟨e0, e1, e2, e3, e4, e5, e6, ef⟩ := at_cells7 HX4.out
            by_cases he2 : n2 = s.size
            · have he2' : ((n2 : Int) == (s.size : Int)) = true := by simp [he2]
              have HDn : Hid (Done s.data.toList (ps.map Prod.fst) dn false) := by
                have := HTd.out.1 (by have hq := size_list s; omega)
                rw [HMl.out] at this
                exact this
              clear he2
              go_wp2_with fail
              go_ret3
              exact stream_end HRow4.out HDn.out HKe.out
            · have he2' : ((n2 : Int) == (s.size : Int)) = false := by simp; omega
              have hn2L : n2 < s.data.toList.length := by have hq := size_list s; omega
              have hiL : n + 1 + dn < s.data.toList.length := by omega
              have hidx := index_run s (n + 1 + dn) hiL
              have hcast : ((n + 1 + dn : Nat) : Int) = (n : Int) + 1 + (dn : Int) := by omega
              rw [hcast] at hidx
              clear hcast
              have hcr := ne_cr s.data.toList[n + 1 + dn]
              by_cases hone : n2 = n + 1 + dn + 1
              · have hone' : ((n2 : Int) == (n : Int) + 1 + (dn : Int) + 1) = true := by simp; omega
                by_cases h13 : s.data.toList[n + 1 + dn] = 13
                · rw [show decide (s.data.toList[n + 1 + dn] = 13) = true from decide_eq_true h13] at hcr
                  have hmid := HM1.out.2 ⟨hone, hiL, h13⟩
                  obtain ⟨v5, w5, hap, hrow5, hkp5, -, -, -, -⟩ := rows_push HRow4.out ⟨c, bd⟩ (.slice ka km kc) HKy.out HB4.out (by have h1 := HLen.out; omega)
                  have HAp := hid hap
                  have HRow5 := hid hrow5
                  have HKe5 := hid (hkp5 HKe.out (by have := HW.out; omega))
                  have HSt5 : Hid (Stand s.data.toList (n2 + 1) ((ps ++ [(Td.mk c bd, Value.slice ka km kc)]).map Prod.fst)) := by
                    rw [List.map_append, ← HBd.out]
                    exact HTd.out.2.1 hn2L hmid
                  generalize s.data.toList[n + 1 + dn].toNat = y at *
                  clear hap hrow5 hkp5 hmid h13 hone
                  go_wp2_with (at_builtin; refine wpList_run rfl (.tmp 132) (.tmp 134) 26 26 rfl _ _ v5 rfl rfl HAp.out ?_)
                  go_roundw
                  case rel => exact ⟨n2 + 1, _, by go_num, HRow5, hid (.inl HSt5.out), HKe5⟩
                  case measure => simp [intOf]; omega
                · rw [show decide (s.data.toList[n + 1 + dn] = 13) = false from decide_eq_false h13] at hcr
                  have HSt5 : Hid (Stand s.data.toList (n2 + 1) (ps.map Prod.fst ++ [⟨bad rChunk, mt⟩])) := HTd.out.2.2 hn2L (fun e => h13 (HM1.out.1 e).2.2)
                  generalize s.data.toList[n + 1 + dn].toNat = y at *
                  clear h13 hone
                  go_wp2_with fail
                  refine (Bad_chunk _).mono ?_
                  rintro e w6 ⟨rfl, hk6⟩
                  obtain ⟨v5, w5, hap, hrow5, hkp5, -, -, -, -⟩ := rows_push (rows_kept HRow4.out hk6) ⟨bad rChunk, mt⟩ (.slice none 0 0) (keys_nil _) (Nat.le_trans HB4.out hk6.2) (by have h1 := HLen.out; omega)
                  have HAp := hid hap
                  have HRow5 := hid hrow5
                  have HKe5 := hid (hkp5 (kept_trans HKe.out hk6) (by have := HW.out; omega))
                  have HSt6 : Hid (Stand s.data.toList (n2 + 1) ((ps ++ [(Td.mk (bad rChunk) mt, Value.slice none 0 0)]).map Prod.fst)) := by
                    rw [List.map_append]
                    exact HSt5.out
                  clear hap hrow5 hkp5 hk6
                  go_wp2_with (at_builtin; refine wpList_run rfl (.tmp 136) (.tmp 138) 26 26 rfl _ _ v5 rfl rfl HAp.out ?_)
                  go_roundw
                  case rel => exact ⟨n2 + 1, _, by go_num, HRow5, hid (.inl HSt6.out), HKe5⟩
                  case measure => simp [intOf]; omega
              · have hone' : ((n2 : Int) == (n : Int) + 1 + (dn : Int) + 1) = false := by simp; omega
                have HSt5 : Hid (Stand s.data.toList (n2 + 1) (ps.map Prod.fst ++ [⟨bad rChunk, mt⟩])) := HTd.out.2.2 hn2L (fun e => hone (HM1.out.1 e).1)
                generalize s.data.toList[n + 1 + dn].toNat = y at *
                clear hone
                go_wp2_with fail
                refine (Bad_chunk _).mono ?_
                rintro e w6 ⟨rfl, hk6⟩
                obtain ⟨v5, w5, hap, hrow5, hkp5, -, -, -, -⟩ := rows_push (rows_kept HRow4.out hk6) ⟨bad rChunk, mt⟩ (.slice none 0 0) (keys_nil _) (Nat.le_trans HB4.out hk6.2) (by have h1 := HLen.out; omega)
                have HAp := hid hap
                have HRow5 := hid hrow5
                have HKe5 := hid (hkp5 (kept_trans HKe.out hk6) (by have := HW.out; omega))
                have HSt6 : Hid (Stand s.data.toList (n2 + 1) ((ps ++ [(Td.mk (bad rChunk) mt, Value.slice none 0 0)]).map Prod.fst)) := by
                  rw [List.map_append]
                  exact HSt5.out
                clear hap hrow5 hkp5 hk6
                go_wp2_with (at_builtin; refine wpList_run rfl (.tmp 136) (.tmp 138) 26 26 rfl _ _ v5 rfl rfl HAp.out ?_)
                go_roundw
                case rel => exact ⟨n2 + 1, _, by go_num, HRow5, hid (.inl HSt6.out), HKe5⟩
                case measure => simp [intOf]; omega
      have hq0 : (0 : Int) < (m : Int) := by omega
      have hlt1 : L.data.toList.length - 1 < L.data.toList.length := by rw [HML.out]; omega
      have hcast : ((L.data.toList.length - 1 : Nat) : Int) = (m : Int) - 1 := by rw [HML.out]; omega
      have hidx := index_run L (L.data.toList.length - 1) hlt1
      rw [hcast] at hidx
      have hte := ne_cr (L.data.toList[L.data.toList.length - 1])
      have hlast := last_at L.data.toList hlt1
      by_cases h13 : L.data.toList[L.data.toList.length - 1] = 13
      · rw [show decide (L.data.toList[L.data.toList.length - 1] = 13) = true from decide_eq_true h13] at hte
        have hT : ba (trimR L.data.toList) = L.extract 0 (m - 1) := by
          refine (ext_ba ?_).symm
          rw [ex_list]
          unfold trimR
          rw [if_pos (by rw [hlast, h13]), List.dropLast_eq_take, HML.out]
          simp
        have hslt : ∀ u, (Instr.slice 9 (.string L) none (some (.int .i64 ((m : Int) - 1))) none).run Try.prog u = .ok (.string (ba (trimR L.data.toList))) u := fun u => by
          rw [hT]
          have := run_slice_string_h (P := Try.prog) u 9 L Try.underlying9 .i64 ((m : Int) - 1) (by omega) (by omega)
          rw [show ((m : Int) - 1).toNat = m - 1 by omega] at this
          exact this
        have HP := hid hPC
        generalize L.data.toList[L.data.toList.length - 1].toNat = y at *
        clear hPC hT hm0 h13 hlast hcast hLl
        generalize ba (trimR L.data.toList) = T at *
        go_wp2_with fail
        refine (HP.out _).mono ?_
        rintro e w3 ⟨kv, rfl, hkv, hk3⟩
        obtain ⟨ka, km, kc, rfl⟩ := keys_slice hkv
        have hRow3 := rows_kept HRow.out hk3
        have hK3 := kept_trans HK.out hk3
        have hB3 : W ≤ w3.heap.size := by have := HW.out; have := hK3.2; omega
        clear hk3 HP HRow HK
        by_cases hd : d < 0
        · have hlt3 : ∀ g, u5.ownBlock = some g → g < w3.heap.size := fun g hg => (own_lt hRow3.1 hg).2
          have hKp : Kept w3 (w3.alloc (.cells #[.int .i64 c.kind, .slice ka km kc, .int .u32 c.flags, .int .i64 c.exp, .string ⟨#[]⟩, .bool c.quiet, .string c.reply] 38)) := kept_alloc (kept_refl w3) _
          have hA9 : At (w3.alloc (.cells #[.int .i64 c.kind, .slice ka km kc, .int .u32 c.flags, .int .i64 c.exp, .string ⟨#[]⟩, .bool c.quiet, .string c.reply] 38)) w3.heap.size #[.int .i64 c.kind, .slice ka km kc, .int .u32 c.flags, .int .i64 c.exp, .string ⟨#[]⟩, .bool c.quiet, .string c.reply] 38 := at_new _ _ _
          obtain ⟨v4, w4, hap, hrow4, hkp4, hat4, -, -, -⟩ := rows_push (rows_kept hRow3 hKp) ⟨c, mt⟩ (.slice ka km kc) (keys_kept hkv hKp) (Nat.le_trans hB3 hKp.2) (by have h1 := HLen.out; omega)
          rw [World.size_alloc] at hap
          have HAp := hid hap
          have HRow4 := hid hrow4
          have HKe := hid (hkp4 (kept_trans hK3 hKp) (by have := HW.out; omega))
          obtain ⟨e0, e1, e2, e3, e4, e5, e6, ef⟩ := at_cells7 (hat4 hA9 (fun e => by have := hlt3 _ e; omega))
          clear hap hrow4 hkp4 hat4 hA9 hKp hlt3 hRow3 hK3 hB3 hkv
          by_cases h7 : c.kind = 7
          · have h7' : (c.kind == 7) = true := by simp [h7]
            have HDn : Hid (Done s.data.toList ((ps ++ [(Td.mk c mt, Value.slice ka km kc)]).map Prod.fst) 0 true) := by
              have h1 := HAf.out
              rw [said_quit h7] at h1
              rw [List.map_append]
              exact th_quit h1 (by have hq := size_list s; omega)
            clear h7
            go_wp2_with (at_builtin; refine wpList_run rfl (.tmp 66) (.tmp 68) 26 26 rfl _ _ v4 rfl rfl HAp.out ?_)
            go_ret3
            exact stream_end HRow4.out HDn.out HKe.out
          · have h7' : (c.kind == 7) = false := by simp [h7]
            have HSt4 : Hid (Stand s.data.toList (n + 1) ((ps ++ [(Td.mk c mt, Value.slice ka km kc)]).map Prod.fst)) := by
              have h1 := HAf.out
              rw [said_plain HFits.out h7 hd] at h1
              rw [List.map_append]
              exact ⟨by have hq := size_list s; omega, h1⟩
            clear h7
            go_wp2_with (at_builtin; refine wpList_run rfl (.tmp 66) (.tmp 68) 26 26 rfl _ _ v4 rfl rfl HAp.out ?_)
            go_roundw
            case rel => exact ⟨n + 1, _, by go_num, HRow4, hid (.inl HSt4.out), HKe⟩
            case measure => simp [intOf]; omega
        obtain ⟨dn, hdn⟩ : ∃ dn : Nat, d = (dn : Int) := ⟨d.toNat, by omega⟩
        subst hdn
        have hdb : dn ≤ 4294967295 := by have h1 := HFits.out.1; simp only at h1; omega
        have hd' : ¬ (dn : Int) < 0 := by omega
        clear hd
        by_cases h8 : c.kind = 8
        · have h8' : (c.kind == 8) = true := by simp [h8]
          have h8n : (c.kind != 8) = false := by simp [h8]
          have hAf := HAf.out
          rw [said_bad h8] at hAf
          have HAf := hid hAf
          clear hAf h8
          have hlt3 : ∀ g, u5.ownBlock = some g → g < w3.heap.size := fun g hg => (own_lt hRow3.1 hg).2
          have hKp : Kept w3 (w3.alloc (.cells #[.int .i64 c.kind, .slice ka km kc, .int .u32 c.flags, .int .i64 c.exp, .string ⟨#[]⟩, .bool c.quiet, .string c.reply] 38)) := kept_alloc (kept_refl w3) _
          have hA9 : At (w3.alloc (.cells #[.int .i64 c.kind, .slice ka km kc, .int .u32 c.flags, .int .i64 c.exp, .string ⟨#[]⟩, .bool c.quiet, .string c.reply] 38)) w3.heap.size #[.int .i64 c.kind, .slice ka km kc, .int .u32 c.flags, .int .i64 c.exp, .string ⟨#[]⟩, .bool c.quiet, .string c.reply] 38 := at_new _ _ _
          obtain ⟨v4, w4, hap, hrow4, hkp4, hat4, -, -, hpl4⟩ := rows_push (rows_kept hRow3 hKp) ⟨c, mt⟩ (.slice ka km kc) (keys_kept hkv hKp) (Nat.le_trans hB3 hKp.2) (by have h1 := HLen.out; omega)
          rw [World.size_alloc] at hap hpl4
          have HAp := hid hap
          have HRow4 := hid hrow4
          have HKe := hid (hkp4 (kept_trans hK3 hKp) (by have := HW.out; omega))
          have HX4 := hid (hat4 hA9 (fun e => by have := hlt3 _ e; omega))
          have HPl : Hid (v4.ownBlock ≠ some w3.heap.size) := fun e => by
            rcases hpl4 _ e with h | h
            · have := hlt3 _ h; omega
            · omega
          have HX9 : Hid (w.heap.size ≤ w3.heap.size) := by have := HW.out; show _ ≤ _; omega
          clear hap hrow4 hkp4 hat4 hA9 hKp hlt3 hRow3 hK3 hB3 hkv hpl4
          obtain ⟨e0, e1, e2, e3, e4, e5, e6, ef⟩ := at_cells7 HX4.out
          by_cases hsh : s.size - (n + 1) < dn
          · have hsh' : (s.size : Int) - ((n : Int) + 1) < (dn : Int) := by omega
            have HDn : Hid (Done s.data.toList ((ps ++ [(Td.mk c mt, Value.slice ka km kc)]).map Prod.fst) 0 false) := by
              rw [List.map_append]
              exact th_pass_short HAf.out (by have hq := size_list s; omega) (by have hq := size_list s; omega)
            clear hsh
            go_wp2_with (at_builtin; refine wpList_run rfl (.tmp 77) (.tmp 79) 26 26 rfl _ _ v4 rfl rfl HAp.out ?_)
            go_ret3
            exact stream_end HRow4.out HDn.out HKe.out
          · have hsh' : ¬ (s.size : Int) - ((n : Int) + 1) < (dn : Int) := by omega
            have HPs := hid (th_pass HAf.out (by have hq := size_list s; omega : n + 1 + dn ≤ s.data.toList.length))
            have hsl := slice_sum s n dn (by omega)
            have HFE2 := hid (feedEnd_sum s n dn (by omega) hs20)
            have HRow5 := hid (rows_set (o := 4) (x := .string (s.extract (n + 1) (n + 1 + dn))) HRow4.out HPl.out (fun y => by rw [at_cell HX4.out 0]; simp))
            have HKe5 := hid (kept_set HKe.out HX9.out 4 (.string (s.extract (n + 1) (n + 1 + dn))))
            have hdn2 : dn ≤ 20000 := by omega
            clear hsh
            go_wp2_with (at_builtin; refine wpList_run rfl (.tmp 77) (.tmp 79) 26 26 rfl _ _ v4 rfl rfl HAp.out ?_)
            refine (HFE2.out _).mono ?_
            rintro e w5 ⟨n2, rfl, hfe2, hw5⟩
            rw [hw5]; clear hw5 w5
            have hn2 : n2 ≤ s.size := by rw [size_list]; exact hfe2.2.1
            have hn2' : n + 1 + dn ≤ n2 := hfe2.1
            have HTp := hid (th_pass_end HPs.out hfe2)
            clear hfe2 HFE2
            by_cases he2 : n2 = s.size
            · have he2' : ((n2 : Int) == (s.size : Int)) = true := by simp [he2]
              have HDn : Hid (Done s.data.toList ((ps ++ [(Td.mk c mt, Value.slice ka km kc)]).map Prod.fst) 0 false) := by
                rw [List.map_append]
                exact HTp.out.1 (by have hq := size_list s; omega)
              clear he2
              go_wp2_with fail
              go_ret3
              exact stream_end HRow5.out HDn.out HKe5.out
            · have he2' : ((n2 : Int) == (s.size : Int)) = false := by simp; omega
              have HSt5 : Hid (Stand s.data.toList (n2 + 1) ((ps ++ [(Td.mk c mt, Value.slice ka km kc)]).map Prod.fst)) := by
                rw [List.map_append]
                exact HTp.out.2 (by have hq := size_list s; omega)
              clear he2
              go_wp2_with fail
              go_roundw
              case rel => exact ⟨n2 + 1, _, by go_num, HRow5, hid (.inl HSt5.out), HKe5⟩
              case measure => simp [intOf]; omega
        · have h8' : (c.kind == 8) = false := by simp [h8]
          have h8n : (c.kind != 8) = true := by simp [h8]
          have hAf := HAf.out
          rw [said_set (kind_set HFits.out h8), List.append_nil] at hAf
          have HAf := hid hAf
          clear hAf h8
          by_cases hsh : s.size - (n + 1) < dn
          · have hsh' : (s.size : Int) - ((n : Int) + 1) < (dn : Int) := by omega
            have HDn : Hid (Done s.data.toList (ps.map Prod.fst) (s.size - (n + 1)) false) := by
              rw [size_list]
              exact th_data_short HAf.out (by have hq := size_list s; omega) (by have hq := size_list s; omega)
            have hKp : Kept w3 (w3.alloc (.cells #[.int .i64 c.kind, .slice ka km kc, .int .u32 c.flags, .int .i64 c.exp, .string ⟨#[]⟩, .bool c.quiet, .string c.reply] 38)) := kept_alloc (kept_refl w3) _
            have HRow4 := hid (rows_kept hRow3 hKp)
            have HKe := hid (kept_trans hK3 hKp)
            have HHeld : Hid ((s.size : Int) - ((n : Int) + 1) = ((s.size - (n + 1) : Nat) : Int)) := by show _ = _; omega
            clear hsh hKp hRow3 hK3 hB3 hkv
            go_wp2_with fail
            rw [HHeld.out]
            go_ret3
            exact stream_end HRow4.out HDn.out HKe.out
          · have hsh' : ¬ (s.size : Int) - ((n : Int) + 1) < (dn : Int) := by omega
            have HDt := hid (th_data HAf.out (by have hq := size_list s; omega : n + 1 + dn ≤ s.data.toList.length))
            have hsl := slice_sum s n dn (by omega)
            have HFE2 := hid (feedEnd_sum s n dn (by omega) hs20)
            have HMl : Hid ((mid s.data.toList (n + 1) (n + 1 + dn)).length = dn) := by show _ = _; rw [mid_length _ (by omega) (by have hq := size_list s; omega)]; omega
            have HBd : Hid (ba (mid s.data.toList (n + 1) (n + 1 + dn)) = s.extract (n + 1) (n + 1 + dn)) := (ext_ba (by rw [ex_list]; rfl)).symm
            generalize s.extract (n + 1) (n + 1 + dn) = bd at *
            have hKp : Kept w3 (w3.alloc (.cells #[.int .i64 c.kind, .slice ka km kc, .int .u32 c.flags, .int .i64 c.exp, .string bd, .bool c.quiet, .string c.reply] 38)) := kept_alloc (kept_refl w3) _
            have HRow4 := hid (rows_kept hRow3 hKp)
            have HKe := hid (kept_trans hK3 hKp)
            have HX4 := hid (at_new w3 #[.int .i64 c.kind, .slice ka km kc, .int .u32 c.flags, .int .i64 c.exp, .string bd, .bool c.quiet, .string c.reply] 38)
            have HKy := hid (keys_kept hkv hKp)
            have HB4 : Hid (W ≤ (w3.alloc (.cells #[.int .i64 c.kind, .slice ka km kc, .int .u32 c.flags, .int .i64 c.exp, .string bd, .bool c.quiet, .string c.reply] 38)).heap.size) := Nat.le_trans hB3 hKp.2
            have hdn2 : dn ≤ 20000 := by omega
            clear hsh hKp hRow3 hK3 hB3 hkv
            go_wp2_with fail
            refine (HFE2.out _).mono ?_
            rintro e w5 ⟨n2, rfl, hfe2, hw5⟩
            rw [hw5]; clear hw5 w5
            have hn2 : n2 ≤ s.size := by rw [size_list]; exact hfe2.2.1
            have hn2' : n + 1 + dn ≤ n2 := hfe2.1
            have HTd := hid (th_data_end HDt.out hfe2)
            have HM1 := hid (mid_one hfe2.1 hfe2.2.1)
            clear hfe2 HFE2
            generalize w3.alloc (.cells #[.int .i64 c.kind, .slice ka km kc, .int .u32 c.flags, .int .i64 c.exp, .string bd, .bool c.quiet, .string c.reply] 38) = w4 at *
            generalize w3.heap.size = X at *
            obtain ⟨e0, e1, e2, e3, e4, e5, e6, ef⟩ := at_cells7 HX4.out
            by_cases he2 : n2 = s.size
            · have he2' : ((n2 : Int) == (s.size : Int)) = true := by simp [he2]
              have HDn : Hid (Done s.data.toList (ps.map Prod.fst) dn false) := by
                have := HTd.out.1 (by have hq := size_list s; omega)
                rw [HMl.out] at this
                exact this
              clear he2
              go_wp2_with fail
              go_ret3
              exact stream_end HRow4.out HDn.out HKe.out
            · have he2' : ((n2 : Int) == (s.size : Int)) = false := by simp; omega
              have hn2L : n2 < s.data.toList.length := by have hq := size_list s; omega
              have hiL : n + 1 + dn < s.data.toList.length := by omega
              have hidx := index_run s (n + 1 + dn) hiL
              have hcast : ((n + 1 + dn : Nat) : Int) = (n : Int) + 1 + (dn : Int) := by omega
              rw [hcast] at hidx
              clear hcast
              have hcr := ne_cr s.data.toList[n + 1 + dn]
              by_cases hone : n2 = n + 1 + dn + 1
              · have hone' : ((n2 : Int) == (n : Int) + 1 + (dn : Int) + 1) = true := by simp; omega
                by_cases h13 : s.data.toList[n + 1 + dn] = 13
                · rw [show decide (s.data.toList[n + 1 + dn] = 13) = true from decide_eq_true h13] at hcr
                  have hmid := HM1.out.2 ⟨hone, hiL, h13⟩
                  obtain ⟨v5, w5, hap, hrow5, hkp5, -, -, -, -⟩ := rows_push HRow4.out ⟨c, bd⟩ (.slice ka km kc) HKy.out HB4.out (by have h1 := HLen.out; omega)
                  have HAp := hid hap
                  have HRow5 := hid hrow5
                  have HKe5 := hid (hkp5 HKe.out (by have := HW.out; omega))
                  have HSt5 : Hid (Stand s.data.toList (n2 + 1) ((ps ++ [(Td.mk c bd, Value.slice ka km kc)]).map Prod.fst)) := by
                    rw [List.map_append, ← HBd.out]
                    exact HTd.out.2.1 hn2L hmid
                  generalize s.data.toList[n + 1 + dn].toNat = y at *
                  clear hap hrow5 hkp5 hmid h13 hone
                  go_wp2_with (at_builtin; refine wpList_run rfl (.tmp 132) (.tmp 134) 26 26 rfl _ _ v5 rfl rfl HAp.out ?_)
                  go_roundw
                  case rel => exact ⟨n2 + 1, _, by go_num, HRow5, hid (.inl HSt5.out), HKe5⟩
                  case measure => simp [intOf]; omega
                · rw [show decide (s.data.toList[n + 1 + dn] = 13) = false from decide_eq_false h13] at hcr
                  have HSt5 : Hid (Stand s.data.toList (n2 + 1) (ps.map Prod.fst ++ [⟨bad rChunk, mt⟩])) := HTd.out.2.2 hn2L (fun e => h13 (HM1.out.1 e).2.2)
                  generalize s.data.toList[n + 1 + dn].toNat = y at *
                  clear h13 hone
                  go_wp2_with fail
                  refine (Bad_chunk _).mono ?_
                  rintro e w6 ⟨rfl, hk6⟩
                  obtain ⟨v5, w5, hap, hrow5, hkp5, -, -, -, -⟩ := rows_push (rows_kept HRow4.out hk6) ⟨bad rChunk, mt⟩ (.slice none 0 0) (keys_nil _) (Nat.le_trans HB4.out hk6.2) (by have h1 := HLen.out; omega)
                  have HAp := hid hap
                  have HRow5 := hid hrow5
                  have HKe5 := hid (hkp5 (kept_trans HKe.out hk6) (by have := HW.out; omega))
                  have HSt6 : Hid (Stand s.data.toList (n2 + 1) ((ps ++ [(Td.mk (bad rChunk) mt, Value.slice none 0 0)]).map Prod.fst)) := by
                    rw [List.map_append]
                    exact HSt5.out
                  clear hap hrow5 hkp5 hk6
                  go_wp2_with (at_builtin; refine wpList_run rfl (.tmp 136) (.tmp 138) 26 26 rfl _ _ v5 rfl rfl HAp.out ?_)
                  go_roundw
                  case rel => exact ⟨n2 + 1, _, by go_num, HRow5, hid (.inl HSt6.out), HKe5⟩
                  case measure => simp [intOf]; omega
              · have hone' : ((n2 : Int) == (n : Int) + 1 + (dn : Int) + 1) = false := by simp; omega
                have HSt5 : Hid (Stand s.data.toList (n2 + 1) (ps.map Prod.fst ++ [⟨bad rChunk, mt⟩])) := HTd.out.2.2 hn2L (fun e => hone (HM1.out.1 e).1)
                generalize s.data.toList[n + 1 + dn].toNat = y at *
                clear hone
                go_wp2_with fail
                refine (Bad_chunk _).mono ?_
                rintro e w6 ⟨rfl, hk6⟩
                obtain ⟨v5, w5, hap, hrow5, hkp5, -, -, -, -⟩ := rows_push (rows_kept HRow4.out hk6) ⟨bad rChunk, mt⟩ (.slice none 0 0) (keys_nil _) (Nat.le_trans HB4.out hk6.2) (by have h1 := HLen.out; omega)
                have HAp := hid hap
                have HRow5 := hid hrow5
                have HKe5 := hid (hkp5 (kept_trans HKe.out hk6) (by have := HW.out; omega))
                have HSt6 : Hid (Stand s.data.toList (n2 + 1) ((ps ++ [(Td.mk (bad rChunk) mt, Value.slice none 0 0)]).map Prod.fst)) := by
                  rw [List.map_append]
                  exact HSt5.out
                clear hap hrow5 hkp5 hk6
                go_wp2_with (at_builtin; refine wpList_run rfl (.tmp 136) (.tmp 138) 26 26 rfl _ _ v5 rfl rfl HAp.out ?_)
                go_roundw
                case rel => exact ⟨n2 + 1, _, by go_num, HRow5, hid (.inl HSt6.out), HKe5⟩
                case measure => simp [intOf]; omega
      · rw [show decide (L.data.toList[L.data.toList.length - 1] = 13) = false from decide_eq_false h13] at hte
        have hT : ba (trimR L.data.toList) = L := by
          unfold trimR
          rw [if_neg (by rw [hlast]; intro e; exact h13 (by injection e)), ba_data]
        rw [hT] at hPC
        have HP := hid hPC
        generalize L.data.toList[L.data.toList.length - 1].toNat = y at *
        clear hPC hT hm0 h13 hlast hcast hLl
        go_wp2_with fail
        refine (HP.out _).mono ?_
        rintro e w3 ⟨kv, rfl, hkv, hk3⟩
        obtain ⟨ka, km, kc, rfl⟩ := keys_slice hkv
        have hRow3 := rows_kept HRow.out hk3
        have hK3 := kept_trans HK.out hk3
        have hB3 : W ≤ w3.heap.size := by have := HW.out; have := hK3.2; omega
        clear hk3 HP HRow HK
        by_cases hd : d < 0
        · have hlt3 : ∀ g, u5.ownBlock = some g → g < w3.heap.size := fun g hg => (own_lt hRow3.1 hg).2
          have hKp : Kept w3 (w3.alloc (.cells #[.int .i64 c.kind, .slice ka km kc, .int .u32 c.flags, .int .i64 c.exp, .string ⟨#[]⟩, .bool c.quiet, .string c.reply] 38)) := kept_alloc (kept_refl w3) _
          have hA9 : At (w3.alloc (.cells #[.int .i64 c.kind, .slice ka km kc, .int .u32 c.flags, .int .i64 c.exp, .string ⟨#[]⟩, .bool c.quiet, .string c.reply] 38)) w3.heap.size #[.int .i64 c.kind, .slice ka km kc, .int .u32 c.flags, .int .i64 c.exp, .string ⟨#[]⟩, .bool c.quiet, .string c.reply] 38 := at_new _ _ _
          obtain ⟨v4, w4, hap, hrow4, hkp4, hat4, -, -, -⟩ := rows_push (rows_kept hRow3 hKp) ⟨c, mt⟩ (.slice ka km kc) (keys_kept hkv hKp) (Nat.le_trans hB3 hKp.2) (by have h1 := HLen.out; omega)
          rw [World.size_alloc] at hap
          have HAp := hid hap
          have HRow4 := hid hrow4
          have HKe := hid (hkp4 (kept_trans hK3 hKp) (by have := HW.out; omega))
          obtain ⟨e0, e1, e2, e3, e4, e5, e6, ef⟩ := at_cells7 (hat4 hA9 (fun e => by have := hlt3 _ e; omega))
          clear hap hrow4 hkp4 hat4 hA9 hKp hlt3 hRow3 hK3 hB3 hkv
          by_cases h7 : c.kind = 7
          · have h7' : (c.kind == 7) = true := by simp [h7]
            have HDn : Hid (Done s.data.toList ((ps ++ [(Td.mk c mt, Value.slice ka km kc)]).map Prod.fst) 0 true) := by
              have h1 := HAf.out
              rw [said_quit h7] at h1
              rw [List.map_append]
              exact th_quit h1 (by have hq := size_list s; omega)
            clear h7
            go_wp2_with (at_builtin; refine wpList_run rfl (.tmp 66) (.tmp 68) 26 26 rfl _ _ v4 rfl rfl HAp.out ?_)
            go_ret3
            exact stream_end HRow4.out HDn.out HKe.out
          · have h7' : (c.kind == 7) = false := by simp [h7]
            have HSt4 : Hid (Stand s.data.toList (n + 1) ((ps ++ [(Td.mk c mt, Value.slice ka km kc)]).map Prod.fst)) := by
              have h1 := HAf.out
              rw [said_plain HFits.out h7 hd] at h1
              rw [List.map_append]
              exact ⟨by have hq := size_list s; omega, h1⟩
            clear h7
            go_wp2_with (at_builtin; refine wpList_run rfl (.tmp 66) (.tmp 68) 26 26 rfl _ _ v4 rfl rfl HAp.out ?_)
            go_roundw
            case rel => exact ⟨n + 1, _, by go_num, HRow4, hid (.inl HSt4.out), HKe⟩
            case measure => simp [intOf]; omega
        obtain ⟨dn, hdn⟩ : ∃ dn : Nat, d = (dn : Int) := ⟨d.toNat, by omega⟩
        subst hdn
        have hdb : dn ≤ 4294967295 := by have h1 := HFits.out.1; simp only at h1; omega
        have hd' : ¬ (dn : Int) < 0 := by omega
        clear hd
        by_cases h8 : c.kind = 8
        · have h8' : (c.kind == 8) = true := by simp [h8]
          have h8n : (c.kind != 8) = false := by simp [h8]
          have hAf := HAf.out
          rw [said_bad h8] at hAf
          have HAf := hid hAf
          clear hAf h8
          have hlt3 : ∀ g, u5.ownBlock = some g → g < w3.heap.size := fun g hg => (own_lt hRow3.1 hg).2
          have hKp : Kept w3 (w3.alloc (.cells #[.int .i64 c.kind, .slice ka km kc, .int .u32 c.flags, .int .i64 c.exp, .string ⟨#[]⟩, .bool c.quiet, .string c.reply] 38)) := kept_alloc (kept_refl w3) _
          have hA9 : At (w3.alloc (.cells #[.int .i64 c.kind, .slice ka km kc, .int .u32 c.flags, .int .i64 c.exp, .string ⟨#[]⟩, .bool c.quiet, .string c.reply] 38)) w3.heap.size #[.int .i64 c.kind, .slice ka km kc, .int .u32 c.flags, .int .i64 c.exp, .string ⟨#[]⟩, .bool c.quiet, .string c.reply] 38 := at_new _ _ _
          obtain ⟨v4, w4, hap, hrow4, hkp4, hat4, -, -, hpl4⟩ := rows_push (rows_kept hRow3 hKp) ⟨c, mt⟩ (.slice ka km kc) (keys_kept hkv hKp) (Nat.le_trans hB3 hKp.2) (by have h1 := HLen.out; omega)
          rw [World.size_alloc] at hap hpl4
          have HAp := hid hap
          have HRow4 := hid hrow4
          have HKe := hid (hkp4 (kept_trans hK3 hKp) (by have := HW.out; omega))
          have HX4 := hid (hat4 hA9 (fun e => by have := hlt3 _ e; omega))
          have HPl : Hid (v4.ownBlock ≠ some w3.heap.size) := fun e => by
            rcases hpl4 _ e with h | h
            · have := hlt3 _ h; omega
            · omega
          have HX9 : Hid (w.heap.size ≤ w3.heap.size) := by have := HW.out; show _ ≤ _; omega
          clear hap hrow4 hkp4 hat4 hA9 hKp hlt3 hRow3 hK3 hB3 hkv hpl4
          obtain ⟨e0, e1, e2, e3, e4, e5, e6, ef⟩ := at_cells7 HX4.out
          by_cases hsh : s.size - (n + 1) < dn
          · have hsh' : (s.size : Int) - ((n : Int) + 1) < (dn : Int) := by omega
            have HDn : Hid (Done s.data.toList ((ps ++ [(Td.mk c mt, Value.slice ka km kc)]).map Prod.fst) 0 false) := by
              rw [List.map_append]
              exact th_pass_short HAf.out (by have hq := size_list s; omega) (by have hq := size_list s; omega)
            clear hsh
            go_wp2_with (at_builtin; refine wpList_run rfl (.tmp 77) (.tmp 79) 26 26 rfl _ _ v4 rfl rfl HAp.out ?_)
            go_ret3
            exact stream_end HRow4.out HDn.out HKe.out
          · have hsh' : ¬ (s.size : Int) - ((n : Int) + 1) < (dn : Int) := by omega
            have HPs := hid (th_pass HAf.out (by have hq := size_list s; omega : n + 1 + dn ≤ s.data.toList.length))
            have hsl := slice_sum s n dn (by omega)
            have HFE2 := hid (feedEnd_sum s n dn (by omega) hs20)
            have HRow5 := hid (rows_set (o := 4) (x := .string (s.extract (n + 1) (n + 1 + dn))) HRow4.out HPl.out (fun y => by rw [at_cell HX4.out 0]; simp))
            have HKe5 := hid (kept_set HKe.out HX9.out 4 (.string (s.extract (n + 1) (n + 1 + dn))))
            have hdn2 : dn ≤ 20000 := by omega
            clear hsh
            go_wp2_with (at_builtin; refine wpList_run rfl (.tmp 77) (.tmp 79) 26 26 rfl _ _ v4 rfl rfl HAp.out ?_)
            refine (HFE2.out _).mono ?_
            rintro e w5 ⟨n2, rfl, hfe2, hw5⟩
            rw [hw5]; clear hw5 w5
            have hn2 : n2 ≤ s.size := by rw [size_list]; exact hfe2.2.1
            have hn2' : n + 1 + dn ≤ n2 := hfe2.1
            have HTp := hid (th_pass_end HPs.out hfe2)
            clear hfe2 HFE2
            by_cases he2 : n2 = s.size
            · have he2' : ((n2 : Int) == (s.size : Int)) = true := by simp [he2]
              have HDn : Hid (Done s.data.toList ((ps ++ [(Td.mk c mt, Value.slice ka km kc)]).map Prod.fst) 0 false) := by
                rw [List.map_append]
                exact HTp.out.1 (by have hq := size_list s; omega)
              clear he2
              go_wp2_with fail
              go_ret3
              exact stream_end HRow5.out HDn.out HKe5.out
            · have he2' : ((n2 : Int) == (s.size : Int)) = false := by simp; omega
              have HSt5 : Hid (Stand s.data.toList (n2 + 1) ((ps ++ [(Td.mk c mt, Value.slice ka km kc)]).map Prod.fst)) := by
                rw [List.map_append]
                exact HTp.out.2 (by have hq := size_list s; omega)
              clear he2
              go_wp2_with fail
              go_roundw
              case rel => exact ⟨n2 + 1, _, by go_num, HRow5, hid (.inl HSt5.out), HKe5⟩
              case measure => simp [intOf]; omega
        · have h8' : (c.kind == 8) = false := by simp [h8]
          have h8n : (c.kind != 8) = true := by simp [h8]
          have hAf := HAf.out
          rw [said_set (kind_set HFits.out h8), List.append_nil] at hAf
          have HAf := hid hAf
          clear hAf h8
          by_cases hsh : s.size - (n + 1) < dn
          · have hsh' : (s.size : Int) - ((n : Int) + 1) < (dn : Int) := by omega
            have HDn : Hid (Done s.data.toList (ps.map Prod.fst) (s.size - (n + 1)) false) := by
              rw [size_list]
              exact th_data_short HAf.out (by have hq := size_list s; omega) (by have hq := size_list s; omega)
            have hKp : Kept w3 (w3.alloc (.cells #[.int .i64 c.kind, .slice ka km kc, .int .u32 c.flags, .int .i64 c.exp, .string ⟨#[]⟩, .bool c.quiet, .string c.reply] 38)) := kept_alloc (kept_refl w3) _
            have HRow4 := hid (rows_kept hRow3 hKp)
            have HKe := hid (kept_trans hK3 hKp)
            have HHeld : Hid ((s.size : Int) - ((n : Int) + 1) = ((s.size - (n + 1) : Nat) : Int)) := by show _ = _; omega
            clear hsh hKp hRow3 hK3 hB3 hkv
            go_wp2_with fail
            rw [HHeld.out]
            go_ret3
            exact stream_end HRow4.out HDn.out HKe.out
          · have hsh' : ¬ (s.size : Int) - ((n : Int) + 1) < (dn : Int) := by omega
            have HDt := hid (th_data HAf.out (by have hq := size_list s; omega : n + 1 + dn ≤ s.data.toList.length))
            have hsl := slice_sum s n dn (by omega)
            have HFE2 := hid (feedEnd_sum s n dn (by omega) hs20)
            have HMl : Hid ((mid s.data.toList (n + 1) (n + 1 + dn)).length = dn) := by show _ = _; rw [mid_length _ (by omega) (by have hq := size_list s; omega)]; omega
            have HBd : Hid (ba (mid s.data.toList (n + 1) (n + 1 + dn)) = s.extract (n + 1) (n + 1 + dn)) := (ext_ba (by rw [ex_list]; rfl)).symm
            generalize s.extract (n + 1) (n + 1 + dn) = bd at *
            have hKp : Kept w3 (w3.alloc (.cells #[.int .i64 c.kind, .slice ka km kc, .int .u32 c.flags, .int .i64 c.exp, .string bd, .bool c.quiet, .string c.reply] 38)) := kept_alloc (kept_refl w3) _
            have HRow4 := hid (rows_kept hRow3 hKp)
            have HKe := hid (kept_trans hK3 hKp)
            have HX4 := hid (at_new w3 #[.int .i64 c.kind, .slice ka km kc, .int .u32 c.flags, .int .i64 c.exp, .string bd, .bool c.quiet, .string c.reply] 38)
            have HKy := hid (keys_kept hkv hKp)
            have HB4 : Hid (W ≤ (w3.alloc (.cells #[.int .i64 c.kind, .slice ka km kc, .int .u32 c.flags, .int .i64 c.exp, .string bd, .bool c.quiet, .string c.reply] 38)).heap.size) := Nat.le_trans hB3 hKp.2
            have hdn2 : dn ≤ 20000 := by omega
            clear hsh hKp hRow3 hK3 hB3 hkv
            go_wp2_with fail
            refine (HFE2.out _).mono ?_
            rintro e w5 ⟨n2, rfl, hfe2, hw5⟩
            rw [hw5]; clear hw5 w5
            have hn2 : n2 ≤ s.size := by rw [size_list]; exact hfe2.2.1
            have hn2' : n + 1 + dn ≤ n2 := hfe2.1
            have HTd := hid (th_data_end HDt.out hfe2)
            have HM1 := hid (mid_one hfe2.1 hfe2.2.1)
            clear hfe2 HFE2
            generalize w3.alloc (.cells #[.int .i64 c.kind, .slice ka km kc, .int .u32 c.flags, .int .i64 c.exp, .string bd, .bool c.quiet, .string c.reply] 38) = w4 at *
            generalize w3.heap.size = X at *
            obtain ⟨e0, e1, e2, e3, e4, e5, e6, ef⟩ := at_cells7 HX4.out
            by_cases he2 : n2 = s.size
            · have he2' : ((n2 : Int) == (s.size : Int)) = true := by simp [he2]
              have HDn : Hid (Done s.data.toList (ps.map Prod.fst) dn false) := by
                have := HTd.out.1 (by have hq := size_list s; omega)
                rw [HMl.out] at this
                exact this
              clear he2
              go_wp2_with fail
              go_ret3
              exact stream_end HRow4.out HDn.out HKe.out
            · have he2' : ((n2 : Int) == (s.size : Int)) = false := by simp; omega
              have hn2L : n2 < s.data.toList.length := by have hq := size_list s; omega
              have hiL : n + 1 + dn < s.data.toList.length := by omega
              have hidx := index_run s (n + 1 + dn) hiL
              have hcast : ((n + 1 + dn : Nat) : Int) = (n : Int) + 1 + (dn : Int) := by omega
              rw [hcast] at hidx
              clear hcast
              have hcr := ne_cr s.data.toList[n + 1 + dn]
              by_cases hone : n2 = n + 1 + dn + 1
              · have hone' : ((n2 : Int) == (n : Int) + 1 + (dn : Int) + 1) = true := by simp; omega
                by_cases h13 : s.data.toList[n + 1 + dn] = 13
                · rw [show decide (s.data.toList[n + 1 + dn] = 13) = true from decide_eq_true h13] at hcr
                  have hmid := HM1.out.2 ⟨hone, hiL, h13⟩
                  obtain ⟨v5, w5, hap, hrow5, hkp5, -, -, -, -⟩ := rows_push HRow4.out ⟨c, bd⟩ (.slice ka km kc) HKy.out HB4.out (by have h1 := HLen.out; omega)
                  have HAp := hid hap
                  have HRow5 := hid hrow5
                  have HKe5 := hid (hkp5 HKe.out (by have := HW.out; omega))
                  have HSt5 : Hid (Stand s.data.toList (n2 + 1) ((ps ++ [(Td.mk c bd, Value.slice ka km kc)]).map Prod.fst)) := by
                    rw [List.map_append, ← HBd.out]
                    exact HTd.out.2.1 hn2L hmid
                  generalize s.data.toList[n + 1 + dn].toNat = y at *
                  clear hap hrow5 hkp5 hmid h13 hone
                  go_wp2_with (at_builtin; refine wpList_run rfl (.tmp 132) (.tmp 134) 26 26 rfl _ _ v5 rfl rfl HAp.out ?_)
                  go_roundw
                  case rel => exact ⟨n2 + 1, _, by go_num, HRow5, hid (.inl HSt5.out), HKe5⟩
                  case measure => simp [intOf]; omega
                · rw [show decide (s.data.toList[n + 1 + dn] = 13) = false from decide_eq_false h13] at hcr
                  have HSt5 : Hid (Stand s.data.toList (n2 + 1) (ps.map Prod.fst ++ [⟨bad rChunk, mt⟩])) := HTd.out.2.2 hn2L (fun e => h13 (HM1.out.1 e).2.2)
                  generalize s.data.toList[n + 1 + dn].toNat = y at *
                  clear h13 hone
                  go_wp2_with fail
                  refine (Bad_chunk _).mono ?_
                  rintro e w6 ⟨rfl, hk6⟩
                  obtain ⟨v5, w5, hap, hrow5, hkp5, -, -, -, -⟩ := rows_push (rows_kept HRow4.out hk6) ⟨bad rChunk, mt⟩ (.slice none 0 0) (keys_nil _) (Nat.le_trans HB4.out hk6.2) (by have h1 := HLen.out; omega)
                  have HAp := hid hap
                  have HRow5 := hid hrow5
                  have HKe5 := hid (hkp5 (kept_trans HKe.out hk6) (by have := HW.out; omega))
                  have HSt6 : Hid (Stand s.data.toList (n2 + 1) ((ps ++ [(Td.mk (bad rChunk) mt, Value.slice none 0 0)]).map Prod.fst)) := by
                    rw [List.map_append]
                    exact HSt5.out
                  clear hap hrow5 hkp5 hk6
                  go_wp2_with (at_builtin; refine wpList_run rfl (.tmp 136) (.tmp 138) 26 26 rfl _ _ v5 rfl rfl HAp.out ?_)
                  go_roundw
                  case rel => exact ⟨n2 + 1, _, by go_num, HRow5, hid (.inl HSt6.out), HKe5⟩
                  case measure => simp [intOf]; omega
              · have hone' : ((n2 : Int) == (n : Int) + 1 + (dn : Int) + 1) = false := by simp; omega
                have HSt5 : Hid (Stand s.data.toList (n2 + 1) (ps.map Prod.fst ++ [⟨bad rChunk, mt⟩])) := HTd.out.2.2 hn2L (fun e => hone (HM1.out.1 e).1)
                generalize s.data.toList[n + 1 + dn].toNat = y at *
                clear hone
                go_wp2_with fail
                refine (Bad_chunk _).mono ?_
                rintro e w6 ⟨rfl, hk6⟩
                obtain ⟨v5, w5, hap, hrow5, hkp5, -, -, -, -⟩ := rows_push (rows_kept HRow4.out hk6) ⟨bad rChunk, mt⟩ (.slice none 0 0) (keys_nil _) (Nat.le_trans HB4.out hk6.2) (by have h1 := HLen.out; omega)
                have HAp := hid hap
                have HRow5 := hid hrow5
                have HKe5 := hid (hkp5 (kept_trans HKe.out hk6) (by have := HW.out; omega))
                have HSt6 : Hid (Stand s.data.toList (n2 + 1) ((ps ++ [(Td.mk (bad rChunk) mt, Value.slice none 0 0)]).map Prod.fst)) := by
                  rw [List.map_append]
                  exact HSt5.out
                clear hap hrow5 hkp5 hk6
                go_wp2_with (at_builtin; refine wpList_run rfl (.tmp 136) (.tmp 138) 26 26 rfl _ _ v5 rfl rfl HAp.out ?_)
                go_roundw
                case rel => exact ⟨n2 + 1, _, by go_num, HRow5, hid (.inl HSt6.out), HKe5⟩
                case measure => simp [intOf]; omega
    · have hi' : ¬ (i : Int) < (s.size : Int) := by omega
      have HDn : Hid (Done s.data.toList (ps.map Prod.fst) 0 false) := by
        rcases HSt.out with h | ⟨-, h⟩
        · exact stand_done h (by have := h.1; rw [← size_list] at this ⊢; omega)
        · exact h
      go_wp2_with fail
      go_ret3
      exact stream_end HRow.out HDn.out HK.out
end Go.Proofs.Ytjlojkcdglocbaa
