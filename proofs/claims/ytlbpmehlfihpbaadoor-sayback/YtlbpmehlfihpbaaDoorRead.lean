/- The contract of the program's Read: what it reads of a text at a place. A text has at most 2^30 bytes. -/
import Derived.Test.YtlbpmehlfihpbaaDoorItem
namespace Go.Proofs.YtlbpmehlfihpbaaDoor
open Go.ChangeShapes Go.WideShapes Go.ChangeAt Go.RowKit
set_option linter.unusedVariables false
set_option linter.unusedSimpArgs false

def recOf (x : It) : R := ⟨⟨x.key.toArray⟩, zeroS, 3, x.flags, 0, ⟨x.body.toArray⟩⟩
def lenOf : Value → Nat
  | .string s => s.size
  | _ => 0
/- What Read answers. -/
def ReadC (w : World) (n : Nat) (o : Out) (e : Ending) (w' : World) : Prop :=
  Kept w w' ∧ match o with
    | .inl c => e = .returned (.tuple #[.slice none 0 0, .int .i64 0, .int .i64 (c : Int)])
    | .inr (l, r) => ∃ v, e = .returned (.tuple #[v, .int .i64 ((n : Int) - (r.length : Int)), .int .i64 0]) ∧ w'.ownsRow w.heap.size 45 8 v l.length (flat (l.map recOf))
theorem kept_grown' {W w w' : World} {row : Option Nat} (h : Kept W w) (g : w.grownBy w' row) (hr : ∀ k, row = some k → W.heap.size ≤ k) : Kept W w' :=
  kept_of (g.os.trans (kept_os h)) (g.output.trans (kept_output h)) (Nat.le_trans h.2 g.size) (fun i hi => (g.block i (Nat.lt_of_lt_of_le hi h.2) (fun e => by have := hr i e.symm; omega)).trans (kept_block h hi))
theorem end_yes {l : ByteArray} (h : l.data.toList = endL) : (l.toList == [69, 78, 68, 13, 10]) = true := by
  rw [ByteArray.toList_eq, h]; rfl
theorem end_no {l : ByteArray} (h : ¬ l.data.toList = endL) : (l.toList == [69, 78, 68, 13, 10]) = false := by
  rw [ByteArray.toList_eq, beq_eq_false_iff_ne]; exact h
theorem rec_cells (x : It) : cellsL (recOf x) = [.string ⟨x.key.toArray⟩, .int .u64 0, .int .u32 0, .int .u8 0, .int .u8 3, .int .u32 (x.flags : Int), .int .u64 0, .string ⟨x.body.toArray⟩] := rfl
set_option maxHeartbeats 3200000 in
set_option maxRecDepth 100000 in
theorem read_at (s : ByteArray) (a : Nat) (ha : a ≤ s.size) (hs : s.size ≤ 1073741824) (w : World) (hB : Base w) :
    Calls Tryd.prog 14 #[.string s, .int .i64 (a : Int)] w (ReadC w s.size (readOf (s.data.toList.drop a))) := by
  have hz := zero45
  obtain ⟨i0, hi, hz0, hz1, hz2⟩ := info_parts info45
  have ha1 : ¬ (s.size : Int) < (a : Int) := by omega
  have ha2 : (a : Int) ≤ (s.size : Int) := by omega
  have HB := hid hB
  have HO : Hid (w.ownsRow w.heap.size 45 8 (.slice none 0 0) 0 (flat (([] : List It).map recOf))) := World.ownsRow_nil w _ _ _
  have HK := hid (kept_refl w)
  have HR : Hid ((readOf (s.extract a s.size).data.toList).on [] = readOf (s.data.toList.drop a)) := by
    show _ = _
    rw [ext_from, Out.on_nil]
  have HS : Hid (0 + (s.extract a s.size).size ≤ s.size) := by
    show _ ≤ _
    rw [← size_list, ext_from, List.length_drop, size_list]; omega
  have Hs := hid hs
  clear hB hs
  generalize readOf (s.data.toList.drop a) = o at *
  go_enter Tryd.func14, Tryd.ntmps14
  go_wp2
  generalize s.extract a s.size = q0 at *
  go_loopw [7, 8] (fun v7 v8 wr => ∃ (acc : List It) (q : ByteArray), v8 = .string q ∧ Hid (wr.ownsRow w.heap.size 45 8 v7 acc.length (flat (acc.map recOf))) ∧ Hid (Kept w wr) ∧ Hid ((readOf q.data.toList).on acc = o) ∧ Hid (acc.length + q.size ≤ s.size)) (fun _ v8 _ => lenOf v8)
  case atStart => exact ⟨[], q0, rfl, HO, HK, HR, HS⟩
  case round =>
    obtain ⟨acc, q, rfl, HO, HK, HR, HS⟩ := hrel
    have HQ : Hid (q.size ≤ 1073741824) := by show _ ≤ _; have := HS.out; have := Hs.out; omega
    by_cases hh : (pre q.data.toList 10).length ≤ 300 ∧ (pre q.data.toList 10).length < q.size
    · obtain ⟨i, hi'⟩ : ∃ i, i = (pre q.data.toList 10).length := ⟨_, rfl⟩
      rw [← hi'] at hh
      have hst : stepOf q.data.toList = lineOf (q.extract 0 (i + 1)).data.toList (q.extract (i + 1) q.size).data.toList := by
        unfold stepOf
        rw [← hi', if_neg (by omega), if_neg (by rw [size_list]; omega), ext_to, ext_from]
      have hC := cutLine_hit q i (by unfold maxLen; have := HQ.out; omega) hi'.symm hh.1 hh.2 wr
      have hl1 : (q.extract 0 (i + 1)).size ≤ 1000 := by rw [← size_list, ext_to, List.length_take]; omega
      have hb1 : (q.extract (i + 1) q.size).size ≤ q.size := by rw [← size_list, ext_from, List.length_drop, size_list]; omega
      generalize q.extract 0 (i + 1) = l at *
      generalize q.extract (i + 1) q.size = t at *
      clear hh hi' i
      by_cases hE : l.data.toList = endL
      · have hd : stepOf q.data.toList = .done t.data.toList := by rw [hst, lineOf, if_pos hE]
        have HR2 : Hid (o = .ok acc t.data.toList) := by
          show _ = _
          rw [← HR.out, read_done hd]; simp [Out.on]
        have he := end_yes hE
        clear hE hst hd HR
        go_wp2_with fail
        refine hC.mono ?_
        rintro e w1 ⟨rfl, hk1⟩
        have HO1 := hid (own_kept HO.out hk1)
        have HK1 := hid (kept_trans HK.out hk1)
        have Ht : Hid (t.size = t.data.toList.length) := (size_list t).symm
        have hts : (t.size : Int) ≤ (s.size : Int) := by have := HS.out; omega
        have hss : (s.size : Int) ≤ 1073741824 := by have := Hs.out; omega
        clear hC hk1 HO HK
        go_wp2
        go_ret3
        rw [HR2.out]
        refine ⟨HK1.out, _, ?_, HO1.out⟩
        rw [Ht.out]; rfl
      · have he := end_no hE
        have hI := fun u hu => readItem_any l t hl1 (by have := HQ.out; omega) hE u hu
        rw [← hst] at hI
        have HB2 := HB
        cases hs : stepOf q.data.toList using St.each with
        | done r =>
          exfalso
          rw [hs] at hst
          have := hst.symm
          unfold lineOf at this
          rw [if_neg hE] at this
          split at this
          · cases this
          · unfold bodyOf at this
            split at this
            · cases this
            · split at this <;> cases this
        | err c =>
          have HR2 : Hid (o = .err c) := by
            show _ = _
            rw [← HR.out, read_err hs]; rfl
          have hc0 : c ≠ 0 := by
            rintro rfl
            rw [hs] at hst
            have := hst.symm
            unfold lineOf at this
            rw [if_neg hE] at this
            split at this
            · cases this
            · unfold bodyOf at this
              split at this
              · cases this
              · split at this <;> cases this
          have hc1 : ((c : Int) == 0) = false := by simp; omega
          have hc2 : ((c : Int) != 0) = true := by simp; omega
          rw [hs] at hI
          unfold itemV at hI
          clear hE hst hs HR hc0
          go_wp2_with fail
          refine hC.mono ?_
          rintro e w1 ⟨rfl, hk1⟩
          have HK1 := hid (kept_trans HK.out hk1)
          have hI2 := hI w1 (base_kept HB.out HK1.out)
          clear hC hk1 HO HK hI
          go_wp2_with fail
          refine hI2.mono ?_
          rintro e w2 ⟨rfl, hk2⟩
          have HK2 := hid (kept_alloc (kept_trans HK1.out hk2) (.cells #[.string ⟨#[]⟩, .int .u64 0, .int .u32 0, .int .u8 0, .int .u8 0, .int .u32 0, .int .u64 0, .string ⟨#[]⟩] 45))
          clear hI2 hk2 HK1
          go_wp2
          go_ret3
          rw [HR2.out]
          exact ⟨HK2.out, rfl⟩
        | item k f b r =>
          have HR2 : Hid ((readOf r).on (acc ++ [⟨k, f, b⟩]) = o) := by
            show _ = _
            rw [← HR.out, read_item hs, Out.on_on]
          have hless := step_less hs
          rw [size_list] at hless
          rw [hs] at hI
          unfold itemV at hI
          clear hE hst hs HR
          go_wp2_with fail
          refine hC.mono ?_
          rintro e w1 ⟨rfl, hk1⟩
          have HK1 := hid (kept_trans HK.out hk1)
          have HO1 := hid (own_kept HO.out hk1)
          have hI2 := hI w1 (base_kept HB.out HK1.out)
          clear hC hk1 HO HK hI
          go_wp2_with fail
          refine hI2.mono ?_
          rintro e w2 ⟨rfl, hk2⟩
          have K4 := hid (kept_alloc (kept_alloc (kept_trans HK1.out hk2) (.cells #[.string ⟨k.toArray⟩, .int .u64 0, .int .u32 0, .int .u8 0, .int .u8 3, .int .u32 (f : Int), .int .u64 0, .string ⟨b.toArray⟩] 45)) (.cells #[.string ⟨k.toArray⟩, .int .u64 0, .int .u32 0, .int .u8 0, .int .u8 3, .int .u32 (f : Int), .int .u64 0, .string ⟨b.toArray⟩] 45))
          have O4 := hid (((own_kept HO1.out hk2).alloc (.cells #[.string ⟨k.toArray⟩, .int .u64 0, .int .u32 0, .int .u8 0, .int .u8 3, .int .u32 (f : Int), .int .u64 0, .string ⟨b.toArray⟩] 45)).alloc (.cells #[.string ⟨k.toArray⟩, .int .u64 0, .int .u32 0, .int .u8 0, .int .u8 3, .int .u32 (f : Int), .int .u64 0, .string ⟨b.toArray⟩] 45))
          have N4 := hid (rec_new (r := recOf ⟨k, f, b⟩) (at_new (w2.alloc (.cells #[.string ⟨k.toArray⟩, .int .u64 0, .int .u32 0, .int .u8 0, .int .u8 3, .int .u32 (f : Int), .int .u64 0, .string ⟨b.toArray⟩] 45)) #[.string ⟨k.toArray⟩, .int .u64 0, .int .u32 0, .int .u8 0, .int .u8 3, .int .u32 (f : Int), .int .u64 0, .string ⟨b.toArray⟩] 45))
          have hsz : (w2.alloc (.cells #[.string ⟨k.toArray⟩, .int .u64 0, .int .u32 0, .int .u8 0, .int .u8 3, .int .u32 (f : Int), .int .u64 0, .string ⟨b.toArray⟩] 45)).heap.size = w2.heap.size + 1 := by simp
          rw [hsz] at N4
          have hWs := hid K4.out.2
          have HL : Hid (acc.length + 1 ≤ 1073741824) := by show _ ≤ _; have := HS.out; have := Hs.out; omega
          clear hI2 hk2 HK1 HO1 hsz
          go_wp2_with (at_builtin; refine wpList_append_own _ rfl _ _ 22 rfl w.heap.size 45 i0 _ 8 64 Tryd.underlying22 hi hz0 hz1 hz2 rfl (by decide) _ acc.length _ rfl O4.out ⟨w2.heap.size + 1, 0, none⟩ 1 1 (cellsL (recOf ⟨k, f, b⟩)) rfl rfl N4.out (rec_one _) (by unfold maxLen; have := HL.out; omega) (by have := HL.out; omega) hWs.out ?_)
          intro v' w4 hown' hgrow _
          have K5 := hid (kept_grown' K4.out hgrow (fun k hk => (O4.out.lt k hk).1))
          have O5 : Hid (w4.ownsRow w.heap.size 45 8 v' (acc ++ [(⟨k, f, b⟩ : It)]).length (flat ((acc ++ [(⟨k, f, b⟩ : It)]).map recOf))) := by
            show World.ownsRow _ _ _ _ _ _ _
            rw [List.map_append, List.map_singleton, flat_snoc, List.length_append]
            exact hown'
          clear hown' hgrow K4 O4 N4 hWs
          go_wp2
          go_roundw
          case rel => exact ⟨acc ++ [⟨k, f, b⟩], ⟨r.toArray⟩, rfl, O5, K5, by rw [mk_list]; exact HR2, by show _ ≤ _; rw [mk_size, List.length_append, List.length_singleton]; have := HS.out; omega⟩
          case measure => show (⟨r.toArray⟩ : ByteArray).size < q.size; rw [mk_size]; exact hless
    · have hst : stepOf q.data.toList = .err (if 300 < q.size then 3 else 2) := by
        have hle := pre_le q.data.toList 10
        rw [size_list] at hle
        unfold stepOf
        by_cases h3 : 300 < (pre q.data.toList 10).length
        · rw [if_pos h3, if_pos (by omega)]
        · rw [if_neg h3, if_pos (by rw [size_list]; omega), if_neg (by omega)]
      have HR2 : Hid (o = .err (if 300 < q.size then 3 else 2)) := by
        show _ = _
        rw [← HR.out, read_err hst]; rfl
      have hC := cutLine_none q (by unfold maxLen; have := HQ.out; omega) hh wr
      obtain ⟨c, hc⟩ : ∃ c : Nat, c = (if 300 < q.size then 3 else 2) := ⟨_, rfl⟩
      have hcc : (if 300 < q.size then (3 : Int) else 2) = (c : Int) := by rw [hc]; split <;> rfl
      have hc1 : ((c : Int) == 0) = false := by rw [hc]; split <;> rfl
      have hc2 : ((c : Int) != 0) = true := by rw [hc]; split <;> rfl
      rw [← hc] at HR2
      rw [hcc] at hC
      clear hh hst hc hcc HR
      go_wp2_with fail
      refine hC.mono ?_
      rintro e w1 ⟨rfl, hw⟩
      rw [hw]; clear hw w1 hC
      go_wp2
      go_ret3
      rw [HR2.out]
      exact ⟨HK.out, rfl⟩
end Go.Proofs.YtlbpmehlfihpbaaDoor
