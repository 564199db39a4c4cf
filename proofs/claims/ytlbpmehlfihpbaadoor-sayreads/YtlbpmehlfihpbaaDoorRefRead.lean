/- The contract of the reference's Read: what it reads of a text at a place. A text has at most 1,000,000 bytes. -/
import Derived.Test.YtlbpmehlfihpbaaDoorRefNum
import Derived.Test.YtlbpmehlfihpbaaDoorReadMath
import Derived.Test.YtlbpmehlfihpbaaDoorLawOnly
namespace Go.Proofs.YtlbpmehlfihpbaaDoor
open Go.ChangeShapes Go.WideShapes Go.ChangeAt Go.RowKit
set_option linter.unusedVariables false
set_option linter.unusedSimpArgs false

theorem index_run (s : ByteArray) (j : Nat) (h : j < s.data.toList.length) (w : World) : (Instr.index 9 (.string s) (.int .i64 (j : Int))).run Tryd.prog w = .ok (.int .u8 (s.data.toList[j].toNat : Int)) w := by
  have hj : j < s.size := by rw [← size_list]; exact h
  rw [run_index_string w 9 _ .i64 (j : Int) Tryd.underlying9, dif_pos ⟨by omega, by rw [← size_list]; exact Int.ofNat_lt.2 h⟩]
  rfl
theorem pre_take_eq (t : List UInt8) (c : UInt8) : t.take (pre t c).length = pre t c := by
  by_cases h : (pre t c).length < t.length
  · have e := pre_split t c h
    have := congrArg (List.take (pre t c).length) e
    rw [List.take_left] at this
    exact this
  · rw [pre_end t c h, List.take_length]
theorem last_split {l : List UInt8} {c : UInt8} (h : l.getLast? = some c) : l = l.dropLast ++ [c] := by
  obtain ⟨ys, rfl⟩ := List.getLast?_eq_some_iff.1 h
  simp
theorem rec_of3 (Q B : ByteArray) (f : Nat) : recOf ⟨Q.data.toList, f, B.data.toList⟩ = ⟨Q, zeroS, 3, f, 0, B⟩ := by
  unfold recOf
  simp only [mk_eq]
def gap (n : Nat) (v : Value) : Nat := n - (intOf v).toNat
theorem measure_next {m a b : Nat} (h : m - a < m - b) : gap m (.int .i64 (a : Int)) < gap m (.int .i64 (b : Int)) := by
  unfold gap; simp [intOf]; exact h
set_option maxHeartbeats 6400000 in
set_option maxRecDepth 100000 in
theorem refRead_at (s : ByteArray) (a0 : Nat) (ha : a0 ≤ s.size) (hs : s.size ≤ 1000000) (w : World) :
    Calls Tryd.prog 15 #[.string s, .int .i64 (a0 : Int)] w (ReadC w s.size (readOf (s.data.toList.drop a0))) := by
  have hz := zero45
  obtain ⟨i0, hi, hz0, hz1, hz2⟩ := info_parts info45
  have ha1 : ¬ (s.size : Int) < (a0 : Int) := by omega
  have HO : Hid ((w.alloc (.cells #[] 45)).ownsRow w.heap.size 45 8 (.slice (some ⟨w.heap.size, 0, none⟩) 0 0) 0 (flat (([] : List It).map recOf))) := own_at (xs := []) (Nat.le_refl _) (at_new w #[] 45) (Nat.le_refl 0) (by unfold maxLen; omega) (by simp) ⟨[], rfl⟩ (by simp)
  have HK := hid (kept_alloc (kept_refl w) (.cells #[] 45))
  have HR : Hid ((readOf (s.data.toList.drop a0)).on [] = readOf (s.data.toList.drop a0)) := Out.on_nil _
  have Hs := hid hs
  have Ha := hid ha
  clear hs ha
  generalize ho : readOf (s.data.toList.drop a0) = o
  rw [ho] at HR
  have HR0 : Hid ((readOf (s.data.toList.drop a0)).on [] = o) := by rw [ho]; exact HR
  clear ho HR
  go_enter Tryd.func15, Tryd.ntmps15
  go_wp2
  generalize w.alloc (.cells #[] 45) = wa at *
  go_loopw [1, 7] (fun v1 v7 wr => ∃ (acc : List It) (a : Nat), v1 = .int .i64 (a : Int) ∧ Hid (wr.ownsRow w.heap.size 45 8 v7 acc.length (flat (acc.map recOf))) ∧ Hid (Kept w wr) ∧ Hid ((readOf (s.data.toList.drop a)).on acc = o) ∧ Hid (a ≤ s.size) ∧ Hid (acc.length + (s.size - a) ≤ s.size)) (fun v1 _ _ => gap s.size v1)
  case atStart => exact ⟨[], a0, rfl, HO, HK, HR0, Ha, by show _ ≤ _; simp⟩
  case round =>
    obtain ⟨acc, a, rfl, HO, HK, HR, Ha, HS⟩ := hrel
    obtain ⟨q, hq⟩ : ∃ q, q = s.extract a s.size := ⟨_, rfl⟩
    have hal : a ≤ s.size := Ha.out
    have hql : q.data.toList = s.data.toList.drop a := by rw [hq, ext_from]
    have hqs : q.size = s.size - a := by rw [← size_list, hql, List.length_drop, size_list]
    have hss : s.size ≤ 1000000 := Hs.out
    rw [← hql] at HR
    obtain ⟨L0, hL0⟩ : ∃ L, L = q.extract 0 (pre q.data.toList 10).length := ⟨_, rfl⟩
    obtain ⟨b, hb⟩ : ∃ b, b = decide ((pre q.data.toList 10).length < q.size) := ⟨_, rfl⟩
    have hP : ∀ u, Calls Tryd.prog 26 #[.string q, .int .u8 10] u fun e w' => e = .returned (.tuple #[.string L0, .bool b]) ∧ w' = u := fun u => by
      have := part_any q 10 (by unfold maxLen; omega) u
      unfold partV at this
      rw [← hL0, ← hb] at this
      exact this
    have HX : Hid (L0.data.toList = pre q.data.toList 10) := by
      show _ = _
      rw [hL0, ext_to]
      exact pre_take_eq _ _
    have HI : Hid (L0.size = (pre q.data.toList 10).length) := by show _ = _; rw [← size_list, HX.out]
    have HbE : Hid (b = decide (L0.size < q.size)) := by show _ = _; rw [HI.out]; exact hb
    obtain ⟨p, hp⟩ : ∃ p, p = a + (L0.size + 1) := ⟨_, rfl⟩
    have hpI : (a : Int) + ((L0.size : Int) + 1) = (p : Int) := by omega
    have HU : Hid (q.data.toList.drop ((pre q.data.toList 10).length + 1) = s.data.toList.drop p) := by
      show _ = _
      rw [hql, List.drop_drop, ← hql, ← HI.out, hp]
    have Hps : Hid (L0.size < q.size → p ≤ s.size) := fun h => by omega
    have Hap : Hid (a < p) := by show _ < _; omega
    have hslq : ∀ u, (Instr.slice 9 (.string s) (some (.int .i64 (a : Int))) none none).run Tryd.prog u = .ok (.string q) u := fun u => by
      have := run_slice_string_l (P := Tryd.prog) u 9 s Tryd.underlying9 .i64 (a : Int) (by omega) (by omega)
      rw [Int.toNat_natCast, ← hq] at this
      exact this
    have hl0 : L0.size ≤ 1000000 := by have := pre_le q.data.toList 10; rw [size_list] at this; have := HI.out; omega
    have hp2 : (p : Int) ≤ 2000002 := by omega
    clear hq hql hqs hL0 hb hp hal
    go_wp2_with fail
    refine (hP wr).mono ?_
    rintro e w1 ⟨rfl, hw⟩
    rw [hw]; clear hw w1 hP
    by_cases h1 : (300 : Int) < (L0.size : Int)
    · have hst := st_long (t := q.data.toList) (by rw [← HI.out]; omega)
      have Hst := hid hst
      clear hst
      have HR2 : Hid (o = .err 3) := by
        show _ = _
        rw [← HR.out, read_err (Hst.out)]; rfl
      clear HR
      go_wp2
      go_ret3
      rw [HR2.out]
      exact ⟨HK.out, rfl⟩
    · cases hb : b with
      | false =>
        have Hst := hid (st_open (t := q.data.toList) (by rw [← HI.out]; omega) (by have h7 := HbE.out; rw [hb] at h7; have h8 := of_decide_eq_false h7.symm; rw [← HI.out, size_list]; exact h8))
        clear hb
        have HR2 : Hid (o = .err 2) := by
          show _ = _
          rw [← HR.out, read_err (Hst.out)]; rfl
        clear HR
        go_wp2
        go_ret3
        rw [HR2.out]
        exact ⟨HK.out, rfl⟩
      | true =>
        have HL : Hid (L0.size < q.size) := by show L0.size < q.size; have h7 := HbE.out; rw [hb] at h7; exact of_decide_eq_true h7.symm
        clear hb
        by_cases h2 : (L0.size : Int) = 300
        · have Hst := hid (st_300 (t := q.data.toList) (by rw [← HI.out]; omega) (by rw [size_list]; have := HL.out; omega))
          have h2b : ((L0.size : Int) == 300) = true := by simpa using h2
          have HR2 : Hid (o = .err 3) := by
            show _ = _
            rw [← HR.out, read_err (Hst.out)]; rfl
          clear HR
          go_wp2
          go_ret3
          rw [HR2.out]
          exact ⟨HK.out, rfl⟩
        · have h2b : ((L0.size : Int) == 300) = false := by simpa using h2
          clear h2
          have Hln := hid (st_line (t := q.data.toList) (by rw [← HI.out]; omega) (by rw [← HI.out, size_list]; exact HL.out))
          by_cases h3 : (L0.size : Int) = 0
          · have h3b : ((L0.size : Int) == 0) = true := by simpa using h3
            have Hst : Hid (stepOf q.data.toList = .err 3) := by
              show _ = _
              have hnil : pre q.data.toList 10 = [] := List.length_eq_zero_iff.1 (by rw [← HI.out]; omega)
              rw [Hln.out, st_nocr (by rw [hnil]; simp)]
            have HR2 : Hid (o = .err 3) := by
              show _ = _
              rw [← HR.out, read_err (Hst.out)]; rfl
            clear HR
            go_wp2
            go_ret3
            rw [HR2.out]
            exact ⟨HK.out, rfl⟩
          · have h3b : ((L0.size : Int) == 0) = false := by simpa using h3
            have hpos : 0 < L0.size := by omega
            clear h3
            have hlt1 : L0.data.toList.length - 1 < L0.data.toList.length := by rw [size_list]; omega
            have hcast : ((L0.data.toList.length - 1 : Nat) : Int) = (L0.size : Int) - 1 := by rw [size_list]; omega
            have hix := index_run L0 (L0.data.toList.length - 1) hlt1
            rw [hcast] at hix
            have hlast : L0.data.toList.getLast? = some L0.data.toList[L0.data.toList.length - 1] := by rw [List.getLast?_eq_getElem?, List.getElem?_eq_getElem hlt1]
            obtain ⟨y, hy⟩ : ∃ y, y = L0.data.toList[L0.data.toList.length - 1] := ⟨_, rfl⟩
            rw [← hy] at hix hlast
            have Hlast := hid hlast
            clear hy hlast hcast hlt1
            by_cases h13 : (y.toNat : Int) = 13
            rotate_left
            · have h13b : ((y.toNat : Int) == 13) = false := by simpa using h13
              have h13c : ((y.toNat : Int) != 13) = true := by simpa using h13
              have Hst : Hid (stepOf q.data.toList = .err 3) := by
                show _ = _
                rw [Hln.out, st_nocr (by rw [← HX.out, Hlast.out]; intro e; injection e with e; exact h13 (by rw [e]; rfl))]
              clear h13
              have HR2 : Hid (o = .err 3) := by
                show _ = _
                rw [← HR.out, read_err (Hst.out)]; rfl
              clear HR
              go_wp2
              go_ret3
              rw [HR2.out]
              exact ⟨HK.out, rfl⟩
            have h13b : ((y.toNat : Int) == 13) = true := by simpa using h13
            have h13c : ((y.toNat : Int) != 13) = false := by simpa using h13
            have hy13 : y = 13 := UInt8.toNat_inj.1 (by have : (13 : UInt8).toNat = 13 := rfl; omega)
            obtain ⟨L1, hL1⟩ : ∃ L, L = L0.extract 0 (L0.size - 1) := ⟨_, rfl⟩
            have hcr : L0.data.toList = L1.data.toList ++ [13] := by
              rw [hL1, ext_to, ← size_list, ← List.dropLast_eq_take]
              have := Hlast.out
              rw [hy13] at this
              exact last_split this
            have Hln2 : Hid (stepOf q.data.toList = lineOf (L1.data.toList ++ [13] ++ [10]) (s.data.toList.drop p)) := by
              show _ = _
              rw [Hln.out, HU.out, ← HX.out, hcr]
            have hsl : ∀ u, (Instr.slice 9 (.string L0) none (some (.int .i64 ((L0.size : Int) - 1))) none).run Tryd.prog u = .ok (.string L1) u := fun u => by
              have := run_slice_string_h (P := Tryd.prog) u 9 L0 Tryd.underlying9 .i64 ((L0.size : Int) - 1) (by omega) (by omega)
              rw [show ((L0.size : Int) - 1).toNat = L0.size - 1 by omega, ← hL1] at this
              exact this
            have hL1s : L1.size ≤ 300 := by
              have := congrArg List.length hcr
              rw [List.length_append, size_list, size_list] at this
              simp at this
              omega
            have Hcr := hid hcr
            clear hL1 hcr hy13 h13 Hln Hlast HX
            by_cases hE : L1.data.toList = [69, 78, 68]
            · have hEb : (L1.toList == [69, 78, 68]) = true := by rw [ByteArray.toList_eq, hE]; rfl
              have hd : stepOf q.data.toList = .done (s.data.toList.drop p) := by rw [Hln2.out, hE, st_end]
              have HR2 : Hid (o = .ok acc (s.data.toList.drop p)) := by
                show _ = _
                rw [← HR.out, read_done hd]; simp [Out.on]
              have Hp2 : Hid ((p : Int) = (s.size : Int) - ((s.data.toList.drop p).length : Int)) := by
                show _ = _
                rw [List.length_drop, size_list]; have := Hps.out HL.out; omega
              clear hE hd Hln2 HR
              go_wp2
              go_ret3
              rw [HR2.out]
              refine ⟨HK.out, _, ?_, HO.out⟩
              rw [← Hp2.out]; rfl
            · have hEb : (L1.toList == [69, 78, 68]) = false := by rw [ByteArray.toList_eq, beq_eq_false_iff_ne]; exact hE
              obtain ⟨V, hV⟩ : ∃ L, L = L1.extract 0 (pre L1.data.toList 32).length := ⟨_, rfl⟩
              obtain ⟨bV, hbV⟩ : ∃ b, b = decide ((pre L1.data.toList 32).length < L1.size) := ⟨_, rfl⟩
              have hPV : ∀ u, Calls Tryd.prog 26 #[.string L1, .int .u8 32] u fun e w' => e = .returned (.tuple #[.string V, .bool bV]) ∧ w' = u := fun u => by
                have := part_any L1 32 (by unfold maxLen; omega) u
                unfold partV at this
                rw [← hV, ← hbV] at this
                exact this
              have HpreV : Hid (V.data.toList = pre L1.data.toList 32) := by
                show _ = _
                rw [hV, ext_to]
                have hle := pre_le L1.data.toList 32
                exact pre_take_eq L1.data.toList 32
              have HbV := hid hbV
              have HszV : Hid (V.size = (pre L1.data.toList 32).length) := by show _ = _; rw [← size_list, HpreV.out]
              clear hV hbV
              go_wp2_with fail
              refine (hPV wr).mono ?_
              rintro e w1 ⟨rfl, hw⟩
              rw [hw]; clear hw w1 hPV
              cases hb : bV with
              | false =>
                have HnotV : Hid ((32 : UInt8) ∉ L1.data.toList) := by
                  have h7 := HbV.out
                  rw [hb] at h7
                  have h8 := of_decide_eq_false h7.symm
                  exact pre_none (by rw [size_list]; exact h8)
                have Hst : Hid (stepOf q.data.toList = .err 3) := by show _ = _; rw [Hln2.out, st_none hE (f_none1 HnotV.out)]
                clear hb hE
                have HR2 : Hid (o = .err 3) := by
                  show _ = _
                  rw [← HR.out, read_err (Hst.out)]; rfl
                clear HR
                go_wp2
                go_ret3
                rw [HR2.out]
                exact ⟨HK.out, rfl⟩
              | true =>
                have HcutV : Hid (L1.data.toList = V.data.toList ++ 32 :: L1.data.toList.drop (V.size + 1) ∧ V.size < L1.size) := by
                  have h7 := HbV.out
                  rw [hb] at h7
                  have h8 := of_decide_eq_true h7.symm
                  refine ⟨?_, by rw [HszV.out]; exact h8⟩
                  have := pre_split L1.data.toList 32 (by rw [size_list]; exact h8)
                  rw [HszV.out, HpreV.out]
                  exact this
                have HnoV : Hid ((32 : UInt8) ∉ V.data.toList) := by show _ ∉ _; rw [HpreV.out]; exact pre_not _ _
                clear hb HbV HszV HpreV
                have HE := hid hE
                clear hE
                by_cases hv : V = ⟨#[86, 65, 76, 85, 69]⟩
                rotate_left
                · have hvb := lit_no hv
                  have Hst : Hid (stepOf q.data.toList = .err 3) := by
                    show _ = _
                    rw [Hln2.out]
                    refine st_none HE.out ?_
                    rw [HcutV.out.1]
                    exact f_none2 HnoV.out (fun e => hv (bytes_ext e))
                  clear hv
                  have HR2 : Hid (o = .err 3) := by
                    show _ = _
                    rw [← HR.out, read_err (Hst.out)]; rfl
                  clear HR
                  go_wp2
                  go_ret3
                  rw [HR2.out]
                  exact ⟨HK.out, rfl⟩
                have hvb := lit_yes hv
                have hV5 : V.size = 5 := by rw [hv]; rfl
                have hV6 : 6 ≤ L1.size := by have := HcutV.out.2; omega
                obtain ⟨L2, hL2⟩ : ∃ L, L = L1.extract 6 L1.size := ⟨_, rfl⟩
                have H2 : Hid (L1.data.toList = [86, 65, 76, 85, 69] ++ 32 :: L2.data.toList) := by
                  show _ = _
                  have := HcutV.out.1
                  rw [hV5, hv] at this
                  rw [hL2, ext_from]
                  exact this
                have hsl6 : ∀ u, (Instr.slice 9 (.string L1) (some (.int .i64 6)) none none).run Tryd.prog u = .ok (.string L2) u := fun u => by
                  have := run_slice_string_l (P := Tryd.prog) u 9 L1 Tryd.underlying9 .i64 6 (by omega) (by omega)
                  rw [show ((6 : Int)).toNat = 6 from rfl, ← hL2] at this
                  exact this
                have hL2s : L2.size ≤ 300 := by rw [hL2, ← size_list, ext_from, List.length_drop, size_list]; omega
                clear hL2 hv HnoV HcutV hV5
                obtain ⟨Q, hQ⟩ : ∃ L, L = L2.extract 0 (pre L2.data.toList 32).length := ⟨_, rfl⟩
                obtain ⟨bQ, hbQ⟩ : ∃ b, b = decide ((pre L2.data.toList 32).length < L2.size) := ⟨_, rfl⟩
                have hPQ : ∀ u, Calls Tryd.prog 26 #[.string L2, .int .u8 32] u fun e w' => e = .returned (.tuple #[.string Q, .bool bQ]) ∧ w' = u := fun u => by
                  have := part_any L2 32 (by unfold maxLen; omega) u
                  unfold partV at this
                  rw [← hQ, ← hbQ] at this
                  exact this
                have HpreQ : Hid (Q.data.toList = pre L2.data.toList 32) := by
                  show _ = _
                  rw [hQ, ext_to]
                  have hle := pre_le L2.data.toList 32
                  exact pre_take_eq L2.data.toList 32
                have HbQ := hid hbQ
                have HszQ : Hid (Q.size = (pre L2.data.toList 32).length) := by show _ = _; rw [← size_list, HpreQ.out]
                clear hQ hbQ
                go_wp2_with fail
                refine (hPQ wr).mono ?_
                rintro e w1 ⟨rfl, hw⟩
                rw [hw]; clear hw w1 hPQ
                cases hb : bQ with
                | false =>
                  have HnotQ : Hid ((32 : UInt8) ∉ L2.data.toList) := by
                    have h7 := HbQ.out
                    rw [hb] at h7
                    have h8 := of_decide_eq_false h7.symm
                    exact pre_none (by rw [size_list]; exact h8)
                  have Hst : Hid (stepOf q.data.toList = .err 3) := by show _ = _; rw [Hln2.out, st_none HE.out (by rw [H2.out]; exact f_none3 HnotQ.out)]
                  clear hb
                  have HR2 : Hid (o = .err 3) := by
                    show _ = _
                    rw [← HR.out, read_err (Hst.out)]; rfl
                  clear HR
                  go_wp2
                  go_ret3
                  rw [HR2.out]
                  exact ⟨HK.out, rfl⟩
                | true =>
                  have HcutQ : Hid (L2.data.toList = Q.data.toList ++ 32 :: L2.data.toList.drop (Q.size + 1) ∧ Q.size < L2.size) := by
                    have h7 := HbQ.out
                    rw [hb] at h7
                    have h8 := of_decide_eq_true h7.symm
                    refine ⟨?_, by rw [HszQ.out]; exact h8⟩
                    have := pre_split L2.data.toList 32 (by rw [size_list]; exact h8)
                    rw [HszQ.out, HpreQ.out]
                    exact this
                  have HnoQ : Hid ((32 : UInt8) ∉ Q.data.toList) := by show _ ∉ _; rw [HpreQ.out]; exact pre_not _ _
                  clear hb HbQ HszQ HpreQ
                  have hQs : Q.size ≤ 300 := by have := HcutQ.out.2; omega
                  have hQi : (Q.size : Int) + 1 ≤ (L2.size : Int) := by have := HcutQ.out.2; omega
                  have hKM : ∀ u, Calls Tryd.prog 27 #[.string Q] u fun e w' => e = .returned (.bool (keyMay Q)) ∧ w' = u := fun u => refKeyMay_any Q (by unfold maxLen; omega) u
                  obtain ⟨L3, hL3⟩ : ∃ L, L = L2.extract (Q.size + 1) L2.size := ⟨_, rfl⟩
                  have H3 : Hid (L1.data.toList = [86, 65, 76, 85, 69] ++ 32 :: (Q.data.toList ++ 32 :: L3.data.toList)) := by
                    show _ = _
                    rw [H2.out, hL3, ext_from, ← HcutQ.out.1]
                  have hsl3 : ∀ u, (Instr.slice 9 (.string L2) (some (.int .i64 ((Q.size : Int) + 1))) none none).run Tryd.prog u = .ok (.string L3) u := fun u => by
                    have := run_slice_string_l (P := Tryd.prog) u 9 L2 Tryd.underlying9 .i64 ((Q.size : Int) + 1) (by omega) (by omega)
                    rw [show ((Q.size : Int) + 1).toNat = Q.size + 1 by omega, ← hL3] at this
                    exact this
                  have hL3s : L3.size ≤ 300 := by rw [hL3, ← size_list, ext_from, List.length_drop, size_list]; omega
                  clear hL3 HcutQ H2
                  go_wp2_with fail
                  refine (hKM wr).mono ?_
                  rintro e w1 ⟨rfl, hw⟩
                  rw [hw]; clear hw w1 hKM
                  cases hkm : keyMay Q with
                  | false =>
                    have Hst : Hid (stepOf q.data.toList = .err 3) := by show _ = _; rw [Hln2.out, st_none HE.out (by rw [H3.out]; exact f_none4 HnoQ.out (by rw [← key_ok]; exact hkm))]
                    clear hkm
                    have HR2 : Hid (o = .err 3) := by
                      show _ = _
                      rw [← HR.out, read_err (Hst.out)]; rfl
                    clear HR
                    go_wp2
                    go_ret3
                    rw [HR2.out]
                    exact ⟨HK.out, rfl⟩
                  | true =>
                    have HKM : Hid (kOk Q.data.toList = true) := by show _ = _; rw [← key_ok]; exact hkm
                    clear hkm
                    obtain ⟨F, hF⟩ : ∃ L, L = L3.extract 0 (pre L3.data.toList 32).length := ⟨_, rfl⟩
                    obtain ⟨bF, hbF⟩ : ∃ b, b = decide ((pre L3.data.toList 32).length < L3.size) := ⟨_, rfl⟩
                    have hPF : ∀ u, Calls Tryd.prog 26 #[.string L3, .int .u8 32] u fun e w' => e = .returned (.tuple #[.string F, .bool bF]) ∧ w' = u := fun u => by
                      have := part_any L3 32 (by unfold maxLen; omega) u
                      unfold partV at this
                      rw [← hF, ← hbF] at this
                      exact this
                    have HpreF : Hid (F.data.toList = pre L3.data.toList 32) := by
                      show _ = _
                      rw [hF, ext_to]
                      have hle := pre_le L3.data.toList 32
                      exact pre_take_eq L3.data.toList 32
                    have HbF := hid hbF
                    have HszF : Hid (F.size = (pre L3.data.toList 32).length) := by show _ = _; rw [← size_list, HpreF.out]
                    clear hF hbF
                    go_wp2_with fail
                    refine (hPF wr).mono ?_
                    rintro e w1 ⟨rfl, hw⟩
                    rw [hw]; clear hw w1 hPF
                    cases hb : bF with
                    | false =>
                      have HnotF : Hid ((32 : UInt8) ∉ L3.data.toList) := by
                        have h7 := HbF.out
                        rw [hb] at h7
                        have h8 := of_decide_eq_false h7.symm
                        exact pre_none (by rw [size_list]; exact h8)
                      have Hst : Hid (stepOf q.data.toList = .err 3) := by show _ = _; rw [Hln2.out, st_none HE.out (by rw [H3.out]; exact f_none5 HnoQ.out HnotF.out)]
                      clear hb
                      have HR2 : Hid (o = .err 3) := by
                        show _ = _
                        rw [← HR.out, read_err (Hst.out)]; rfl
                      clear HR
                      go_wp2
                      go_ret3
                      rw [HR2.out]
                      exact ⟨HK.out, rfl⟩
                    | true =>
                      have HcutF : Hid (L3.data.toList = F.data.toList ++ 32 :: L3.data.toList.drop (F.size + 1) ∧ F.size < L3.size) := by
                        have h7 := HbF.out
                        rw [hb] at h7
                        have h8 := of_decide_eq_true h7.symm
                        refine ⟨?_, by rw [HszF.out]; exact h8⟩
                        have := pre_split L3.data.toList 32 (by rw [size_list]; exact h8)
                        rw [HszF.out, HpreF.out]
                        exact this
                      have HnoF : Hid ((32 : UInt8) ∉ F.data.toList) := by show _ ∉ _; rw [HpreF.out]; exact pre_not _ _
                      clear hb HbF HszF HpreF
                      have hFs : F.size ≤ 300 := by have := HcutF.out.2; omega
                      have hFi : (F.size : Int) + 1 ≤ (L3.size : Int) := by have := HcutF.out.2; omega
                      obtain ⟨L4, hL4⟩ : ∃ L, L = L3.extract (F.size + 1) L3.size := ⟨_, rfl⟩
                      have H4 : Hid (L1.data.toList = [86, 65, 76, 85, 69] ++ 32 :: (Q.data.toList ++ 32 :: (F.data.toList ++ 32 :: L4.data.toList))) := by
                        show _ = _
                        rw [H3.out, hL4, ext_from, ← HcutF.out.1]
                      have hsl4 : ∀ u, (Instr.slice 9 (.string L3) (some (.int .i64 ((F.size : Int) + 1))) none none).run Tryd.prog u = .ok (.string L4) u := fun u => by
                        have := run_slice_string_l (P := Tryd.prog) u 9 L3 Tryd.underlying9 .i64 ((F.size : Int) + 1) (by omega) (by omega)
                        rw [show ((F.size : Int) + 1).toNat = F.size + 1 by omega, ← hL4] at this
                        exact this
                      have hL4s : L4.size ≤ 300 := by rw [hL4, ← size_list, ext_from, List.length_drop, size_list]; omega
                      clear hL4 HcutF H3
                      have hN1 : ∀ u, Calls Tryd.prog 28 #[.string F, .int .i64 4294967295] u fun e w' => e = .returned (.int .i64 (dv (numOf F.data.toList 4294967295))) ∧ w' = u := fun u => refNumber_any F 4294967295 (by unfold maxLen; omega) (Nat.le_refl _) u
                      have hN2 : ∀ u, Calls Tryd.prog 28 #[.string L4, .int .i64 1024] u fun e w' => e = .returned (.int .i64 (dv (numOf L4.data.toList 1024))) ∧ w' = u := fun u => refNumber_any L4 1024 (by unfold maxLen; omega) (by omega) u
                      go_wp2_with fail
                      refine (hN1 wr).mono ?_
                      rintro e w1 ⟨rfl, hw⟩
                      rw [hw]; clear hw w1 hN1
                      go_wp2_with fail
                      refine (hN2 wr).mono ?_
                      rintro e w1 ⟨rfl, hw⟩
                      rw [hw]; clear hw w1 hN2
                      cases hnf : numOf F.data.toList 4294967295 with
                      | none =>
                        have Hst : Hid (stepOf q.data.toList = .err 3) := by show _ = _; rw [Hln2.out, st_none HE.out (by rw [H4.out]; exact f_none6 HnoQ.out HnoF.out (.inl hnf))]
                        have hdv : dv none = -1 := rfl
                        clear hnf
                        simp only [hdv]
                        generalize dv (numOf L4.data.toList 1024) = z4 at *
                        have HR2 : Hid (o = .err 3) := by
                          show _ = _
                          rw [← HR.out, read_err (Hst.out)]; rfl
                        clear HR
                        go_wp2
                        go_ret3
                        rw [HR2.out]
                        exact ⟨HK.out, rfl⟩
                      | some f =>
                        cases hnn : numOf L4.data.toList 1024 with
                        | none =>
                          have Hst : Hid (stepOf q.data.toList = .err 3) := by show _ = _; rw [Hln2.out, st_none HE.out (by rw [H4.out]; exact f_none6 HnoQ.out HnoF.out (.inr hnn))]
                          have hdv : dv none = -1 := rfl
                          have hdf : dv (some f) = (f : Int) := rfl
                          have hf0 : ¬ (f : Int) < 0 := by omega
                          clear hnf hnn
                          simp only [hdv, hdf]
                          have HR2 : Hid (o = .err 3) := by
                            show _ = _
                            rw [← HR.out, read_err (Hst.out)]; rfl
                          clear HR
                          go_wp2
                          go_ret3
                          rw [HR2.out]
                          exact ⟨HK.out, rfl⟩
                        | some n =>
                          have Hst0 : Hid (stepOf q.data.toList = bodyOf Q.data.toList f n (s.data.toList.drop p)) := by show _ = _; rw [Hln2.out, st_some HE.out (by rw [H4.out]; exact f_some HKM.out hnf hnn)]
                          have hf4 : f ≤ 4294967295 := (num_some.1 hnf).2
                          have hn4 : n ≤ 1024 := (num_some.1 hnn).2
                          have hdn : dv (some n) = (n : Int) := rfl
                          have hdf : dv (some f) = (f : Int) := rfl
                          clear hnf hnn H4 HE HKM Hln2 HnoQ HnoF
                          simp only [hdn, hdf]
                          clear hdn hdf
                          have hf0 : ¬ (f : Int) < 0 := by omega
                          have hn0 : ¬ (n : Int) < 0 := by omega
                          have hwf : IntKind.u32.wrap (f : Int) = (f : Int) := by rw [IntKind.wrap_u32]; omega
                          have hps : p ≤ s.size := Hps.out HL.out
                          have hsi : (s.size : Int) ≤ 1000000 := by have := Hs.out; omega
                          have hpi : (p : Int) ≤ (s.size : Int) := by omega
                          have HG : Hid (∀ j, (s.data.toList.drop p)[j]? = s.data.toList[p + j]?) := fun j => List.getElem?_drop
                          by_cases g1 : (p : Int) + (n : Int) < (s.size : Int)
                          rotate_left
                          · have Hst : Hid (stepOf q.data.toList = .err 2) := by
                              show _ = _
                              rw [Hst0.out]
                              refine b_short (by rw [List.length_drop, size_list]; omega) (fun c hc => ?_)
                              rw [HG.out, List.getElem?_eq_none (by rw [size_list]; omega)] at hc
                              cases hc
                            have g2 : ¬ (p : Int) + (n : Int) + 1 < (s.size : Int) := by omega
                            have g3 : (s.size : Int) < (p : Int) + (n : Int) + 2 := by omega
                            have g1d : decide ((p : Int) + (n : Int) < (s.size : Int)) = false := decide_eq_false g1
                            have g2d : decide ((p : Int) + (n : Int) + 1 < (s.size : Int)) = false := decide_eq_false g2
                            have HR2 : Hid (o = .err 2) := by
                              show _ = _
                              rw [← HR.out, read_err (Hst.out)]; rfl
                            clear HR
                            go_wp2
                            go_ret3
                            rw [HR2.out]
                            exact ⟨HK.out, rfl⟩
                          have hi1 := index_run s (p + n) (by rw [size_list]; omega)
                          rw [show ((p + n : Nat) : Int) = (p : Int) + (n : Int) by omega] at hi1
                          obtain ⟨c1, hc1⟩ : ∃ c, c = s.data.toList[p + n]'(by rw [size_list]; omega) := ⟨_, rfl⟩
                          rw [← hc1] at hi1
                          have HC1 : Hid ((s.data.toList.drop p)[n]? = some c1) := by show _ = _; rw [HG.out, List.getElem?_eq_getElem (by rw [size_list]; omega), hc1]
                          clear hc1
                          by_cases g13 : (c1.toNat : Int) = 13
                          rotate_left
                          · have g13b : ((c1.toNat : Int) == 13) = false := by simpa using g13
                            have g13c : ((c1.toNat : Int) != 13) = true := by simpa using g13
                            have Hst : Hid (stepOf q.data.toList = .err 3) := by show _ = _; rw [Hst0.out, b_a HC1.out (fun e => g13 (by rw [e]; rfl))]
                            clear g13
                            have HR2 : Hid (o = .err 3) := by
                              show _ = _
                              rw [← HR.out, read_err (Hst.out)]; rfl
                            clear HR
                            go_wp2
                            go_ret3
                            rw [HR2.out]
                            exact ⟨HK.out, rfl⟩
                          have g13b : ((c1.toNat : Int) == 13) = true := by simpa using g13
                          have g13c : ((c1.toNat : Int) != 13) = false := by simpa using g13
                          have H13 : Hid (∀ c, (s.data.toList.drop p)[n]? = some c → c = 13) := fun c hc => by
                            rw [HC1.out] at hc
                            injection hc with hc
                            rw [← hc]
                            exact UInt8.toNat_inj.1 (by have : (13 : UInt8).toNat = 13 := rfl; omega)
                          clear g13 HC1
                          by_cases g2 : (p : Int) + (n : Int) + 1 < (s.size : Int)
                          rotate_left
                          · have Hst : Hid (stepOf q.data.toList = .err 2) := by
                              show _ = _
                              rw [Hst0.out]
                              exact b_short (by rw [List.length_drop, size_list]; omega) H13.out
                            have g3 : (s.size : Int) < (p : Int) + (n : Int) + 2 := by omega
                            have g2d : decide ((p : Int) + (n : Int) + 1 < (s.size : Int)) = false := decide_eq_false g2
                            have HR2 : Hid (o = .err 2) := by
                              show _ = _
                              rw [← HR.out, read_err (Hst.out)]; rfl
                            clear HR
                            go_wp2
                            go_ret3
                            rw [HR2.out]
                            exact ⟨HK.out, rfl⟩
                          have hi2 := index_run s (p + n + 1) (by rw [size_list]; omega)
                          rw [show ((p + n + 1 : Nat) : Int) = (p : Int) + (n : Int) + 1 by omega] at hi2
                          obtain ⟨c2, hc2⟩ : ∃ c, c = s.data.toList[p + n + 1]'(by rw [size_list]; omega) := ⟨_, rfl⟩
                          rw [← hc2] at hi2
                          have HC2 : Hid ((s.data.toList.drop p)[n + 1]? = some c2) := by show _ = _; rw [HG.out, show p + (n + 1) = p + n + 1 by omega, List.getElem?_eq_getElem (by rw [size_list]; omega), hc2]
                          clear hc2
                          by_cases g10 : (c2.toNat : Int) = 10
                          rotate_left
                          · have g10b : ((c2.toNat : Int) == 10) = false := by simpa using g10
                            have g10c : ((c2.toNat : Int) != 10) = true := by simpa using g10
                            have Hst : Hid (stepOf q.data.toList = .err 3) := by show _ = _; rw [Hst0.out, b_b HC2.out (fun e => g10 (by rw [e]; rfl))]
                            clear g10
                            have HR2 : Hid (o = .err 3) := by
                              show _ = _
                              rw [← HR.out, read_err (Hst.out)]; rfl
                            clear HR
                            go_wp2
                            go_ret3
                            rw [HR2.out]
                            exact ⟨HK.out, rfl⟩
                          have g10b : ((c2.toNat : Int) == 10) = true := by simpa using g10
                          have g10c : ((c2.toNat : Int) != 10) = false := by simpa using g10
                          have H10 : Hid (∀ c, (s.data.toList.drop p)[n + 1]? = some c → c = 10) := fun c hc => by
                            rw [HC2.out] at hc
                            injection hc with hc
                            rw [← hc]
                            exact UInt8.toNat_inj.1 (by have : (10 : UInt8).toNat = 10 := rfl; omega)
                          clear g10 HC2
                          have hst : stepOf q.data.toList = .item Q.data.toList f ((s.data.toList.drop p).take n) ((s.data.toList.drop p).drop (n + 2)) := by
                            rw [Hst0.out]
                            exact b_item (by rw [List.length_drop, size_list]; omega) H13.out H10.out
                          obtain ⟨Bd, hBd⟩ : ∃ B, B = s.extract p (p + n) := ⟨_, rfl⟩
                          have hBl : Bd.data.toList = (s.data.toList.drop p).take n := by rw [hBd, ext_list, show p + n - p = n by omega]
                          have hslb := slice_run s p (p + n) (by omega) (by omega)
                          rw [show ((p + n : Nat) : Int) = (p : Int) + (n : Int) by omega, ← hBd] at hslb
                          rw [← hBl, List.drop_drop] at hst
                          have HR2 : Hid ((readOf (s.data.toList.drop (p + (n + 2)))).on (acc ++ [⟨Q.data.toList, f, Bd.data.toList⟩]) = o) := by
                            show _ = _
                            rw [← HR.out, read_item hst, Out.on_on]
                          have g3 : ¬ (s.size : Int) < (p : Int) + (n : Int) + 2 := by omega
                          have HNx : Hid (p + (n + 2) ≤ s.size) := by show _ ≤ _; omega
                          have HAc : Hid ((acc ++ [(⟨Q.data.toList, f, Bd.data.toList⟩ : It)]).length + (s.size - (p + (n + 2))) ≤ s.size) := by
                            show _ ≤ _
                            rw [List.length_append, List.length_singleton]
                            have := HS.out
                            have := Hap.out
                            omega
                          have HM : Hid (s.size - (p + (n + 2)) < s.size - a) := by show _ < _; have := Hap.out; omega
                          obtain ⟨p2, hp2e⟩ : ∃ x, x = p + (n + 2) := ⟨_, rfl⟩
                          rw [← hp2e] at HR2 HNx HAc HM
                          have hnext : (p : Int) + ((n : Int) + 2) = (p2 : Int) := by omega
                          clear hp2e
                          have K4 := hid (kept_alloc HK.out (.cells #[.string Q, .int .u64 0, .int .u32 0, .int .u8 0, .int .u8 3, .int .u32 (f : Int), .int .u64 0, .string Bd] 45))
                          have O4 := hid (HO.out.alloc (.cells #[.string Q, .int .u64 0, .int .u32 0, .int .u8 0, .int .u8 3, .int .u32 (f : Int), .int .u64 0, .string Bd] 45))
                          have N4 := hid (rec_new (r := ⟨Q, zeroS, 3, f, 0, Bd⟩) (at_new wr #[.string Q, .int .u64 0, .int .u32 0, .int .u8 0, .int .u8 3, .int .u32 (f : Int), .int .u64 0, .string Bd] 45))
                          have hWs := hid K4.out.2
                          have HLn : Hid (acc.length + 1 ≤ 1000001) := by show _ ≤ _; have := HS.out; have := Hs.out; omega
                          clear hst hBd hBl HR HO HK Hst0 H13 H10 HG
                          go_wp2_with (at_builtin; refine wpList_append_own _ rfl _ _ 22 rfl w.heap.size 45 i0 _ 8 64 Tryd.underlying22 hi hz0 hz1 hz2 rfl (by decide) _ acc.length _ rfl O4.out ⟨wr.heap.size, 0, none⟩ 1 1 (cellsL ⟨Q, zeroS, 3, f, 0, Bd⟩) rfl rfl N4.out (rec_one _) (by unfold maxLen; have := HLn.out; omega) (by have := HLn.out; omega) hWs.out ?_)
                          intro v' w4 hown' hgrow _
                          have K5 := hid (kept_grown' K4.out hgrow (fun k hk => (O4.out.lt k hk).1))
                          have O5 : Hid (w4.ownsRow w.heap.size 45 8 v' (acc ++ [(⟨Q.data.toList, f, Bd.data.toList⟩ : It)]).length (flat ((acc ++ [(⟨Q.data.toList, f, Bd.data.toList⟩ : It)]).map recOf))) := by
                            show World.ownsRow _ _ _ _ _ _ _
                            rw [List.map_append, List.map_singleton, flat_snoc, List.length_append, rec_of3]
                            exact hown'
                          clear hown' hgrow K4 O4 N4 hWs
                          go_wp2
                          go_roundw
                          case rel => exact ⟨acc ++ [⟨Q.data.toList, f, Bd.data.toList⟩], p2, rfl, O5, K5, HR2, HNx, HAc⟩
                          case measure => exact measure_next HM.out
end Go.Proofs.YtlbpmehlfihpbaaDoor
