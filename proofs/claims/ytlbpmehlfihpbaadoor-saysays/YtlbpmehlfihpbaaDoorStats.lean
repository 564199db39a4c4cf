/- The contracts of the program's and the reference's Stats: what they say of a row of counts. A row has at most 50 counts, a name at most 1,000 bytes. -/
import Derived.Test.YtlbpmehlfihpbaaDoorRefItem
namespace Go.Proofs.YtlbpmehlfihpbaaDoor
open Go.ChangeShapes Go.WideShapes Go.ChangeAt Go.RowKit
set_option linter.unusedVariables false
set_option linter.unusedSimpArgs false

def statR (p : ByteArray × Nat) : List UInt8 := [83, 84, 65, 84] ++ 32 :: (p.1.data.toList ++ 32 :: (dec p.2 ++ [13, 10]))
def statsR (ps : List (ByteArray × Nat)) : List UInt8 := ps.flatMap statR ++ endL
def cells2L (p : ByteArray × Nat) : List Value := [.string p.1, .int .u64 (p.2 : Int)]
/- A row of counts. -/
def Row2 (w : World) (oa : Option Addr) (len cap b : Nat) (ps : List (ByteArray × Nat)) : Prop :=
  ps.length = len ∧ len ≤ 50 ∧ len ≤ cap ∧ (0 < len → oa = some ⟨b, 0, none⟩ ∧ b < w.heap.size) ∧ ∀ i (h : i < ps.length), ps[i].1.size ≤ 1000 ∧ ps[i].2 < 18446744073709551616 ∧ w.cell? ⟨b, i * 2, none⟩ = some (.string ps[i].1) ∧ w.cell? ⟨b, i * 2 + 1, none⟩ = some (.int .u64 (ps[i].2 : Int))
theorem row2_kept {w w' : World} {oa : Option Addr} {len cap b : Nat} {ps : List (ByteArray × Nat)} (h : Row2 w oa len cap b ps) (k : Kept w w') : Row2 w' oa len cap b ps := by
  obtain ⟨h0, h1, h2, h3, h4⟩ := h
  refine ⟨h0, h1, h2, fun hl => ⟨(h3 hl).1, Nat.lt_of_lt_of_le (h3 hl).2 k.2⟩, fun i hi => ?_⟩
  have hb := (h3 (by omega)).2
  obtain ⟨a, b', c, d⟩ := h4 i hi
  exact ⟨a, b', (kept_cell k hb).trans c, (kept_cell k hb).trans d⟩
theorem cells2 {w : World} {X T : Nat} {s : ByteArray} {n : Nat} (h : At w X #[.string s, .int .u64 (n : Int)] T) : w.cell? ⟨X, 0, none⟩ = some (.string s) ∧ w.cell? ⟨X, 1, none⟩ = some (.int .u64 (n : Int)) := ⟨at_cell h 0, at_cell h 1⟩
theorem stat_size {p : ByteArray × Nat} (h : p.1.size ≤ 1000) (k : p.2 < 18446744073709551616) : (statR p).length ≤ 1100 := by
  unfold statR
  have h1 := dec_len 20 p.2 (by omega) (by omega)
  simp only [List.length_append, List.length_cons, List.length_nil, size_list]
  omega
theorem stats_size : ∀ {ps : List (ByteArray × Nat)}, (∀ p ∈ ps, p.1.size ≤ 1000 ∧ p.2 < 18446744073709551616) → (ps.flatMap statR).length ≤ ps.length * 1100
  | [], _ => by simp
  | p :: ps, h => by
    have ih := stats_size (ps := ps) (fun x hx => h x (by simp [hx]))
    have h1 := stat_size (h p (by simp)).1 (h p (by simp)).2
    rw [List.flatMap_cons, List.length_append, List.length_cons]
    omega
theorem row2_size {w : World} {oa : Option Addr} {len cap b : Nat} {ps : List (ByteArray × Nat)} (h : Row2 w oa len cap b ps) : (ps.flatMap statR).length ≤ 55000 := by
  have := stats_size (ps := ps) (fun p hp => by
    obtain ⟨i, hi, rfl⟩ := List.getElem_of_mem hp
    exact ⟨(h.2.2.2.2 i hi).1, (h.2.2.2.2 i hi).2.1⟩)
  have := h.1
  have := h.2.1
  omega
theorem say3 {B b : Nat} {l : List UInt8} {w : World} (p : ByteArray × Nat) (Z : Nat) (hM : Made B b l w) (hA : At w Z #[.string ⟨#[83, 84, 65, 84]⟩, .string p.1, .string ⟨(Lib.decDigits p.2).toArray⟩] 9) (hl : l.length + (statR p).length ≤ 70368744177664) :
    Calls Tryd.prog 18 #[.pointer (some ⟨b, 0, none⟩), .slice (some ⟨Z, 0, none⟩) 3 3] w fun e w' => e = .returned (.tuple #[]) ∧ Made B b (l ++ statR p) w' ∧ Said B b w w' := by
  have e : Lib.join ([⟨#[83, 84, 65, 84]⟩, p.1, ⟨(Lib.decDigits p.2).toArray⟩].map (·.data.toList)) [32] ++ [13, 10] = statR p := by
    unfold statR
    simp [Lib.join, List.intercalate, dec]
  have hlen := congrArg List.length e
  rw [List.length_append] at hlen
  have := sayLine_any Z [⟨#[83, 84, 65, 84]⟩, p.1, ⟨(Lib.decDigits p.2).toArray⟩] w hM (words_at hA) (at_lt hA) (by simp) (by
    simp only [List.length_cons, List.length_nil] at hlen
    omega)
  rw [e] at this
  exact this
theorem zero30 (w : World) : (zeroValue 30).run Tryd.prog w = .ok (.agg #[.string ⟨#[]⟩, .int .u64 0]) w := by kernel_rfl
set_option maxHeartbeats 3200000 in
set_option maxRecDepth 100000 in
theorem Stats_any (oa : Option Addr) (len cap b : Nat) (ps : List (ByteArray × Nat)) (w : World) (hB : Base w) (hR : Row2 w oa len cap b ps) :
    Calls Tryd.prog 12 #[.slice oa len cap] w fun e w' => e = .returned (.string ⟨(statsR ps).toArray⟩) ∧ Kept w w' := by
  have hz := zero30
  have hz3 := zero53
  have HN := hid (row2_size hR)
  obtain ⟨h0, h1, h2, h4, h5⟩ := hR
  have H0 : Hid (ps.length = len) := h0
  have H4 : Hid (0 < len → oa = some ⟨b, 0, none⟩ ∧ b < w.heap.size) := h4
  have H5 : Hid (∀ i (h : i < ps.length), ps[i].1.size ≤ 1000 ∧ ps[i].2 < 18446744073709551616 ∧ w.cell? ⟨b, i * 2, none⟩ = some (.string ps[i].1) ∧ w.cell? ⟨b, i * 2 + 1, none⟩ = some (.int .u64 (ps[i].2 : Int))) := h5
  have M0 := hid (made_new w)
  have K0 := hid (kept_alloc (kept_refl w) (.cells #[.pointer none, .slice none 0 0] 53))
  clear h0 h4 h5
  go_enter Tryd.func12, Tryd.ntmps12
  go_wp2
  generalize w.alloc (.cells #[.pointer none, .slice none 0 0] 53) = wa at *
  obtain ⟨X, hX⟩ : ∃ X, X = w.heap.size := ⟨_, rfl⟩
  rw [← hX] at M0
  simp only [← hX]
  have HX : Hid (w.heap.size ≤ X) := by show _ ≤ _; omega
  clear hX
  go_loopw [5, 8] (fun p j wr => ∃ k : Nat, k ≤ len ∧ j = .int .i64 k ∧ Hid (Made X X ((ps.take k).flatMap statR) wr) ∧ Hid (Kept w wr)) (fun _ j _ => len - (intOf j).toNat)
  case atStart => exact ⟨0, Nat.zero_le _, rfl, by simpa using M0, K0⟩
  case round =>
    obtain ⟨k, hk, rfl, HM, HK⟩ := hrel
    by_cases hlt : k < len
    · have hkL : k < ps.length := by rw [H0.out]; exact hlt
      obtain ⟨hoa, hb⟩ := H4.out (by omega)
      obtain ⟨-, hv, g0, g1⟩ := H5.out k hkL
      have hc0 := (kept_cell HK.out hb).trans g0
      have hc1 := (kept_cell HK.out hb).trans g1
      have HS := hid (flat_succ statR ps k hkL)
      have HL : Hid (((ps.take k).flatMap statR).length + (statR ps[k]).length ≤ 70368744177664) := by
        show _ ≤ _
        have h1 := flat_le statR ps (k + 1)
        rw [flat_succ statR ps k hkL, List.length_append] at h1
        have := HN.out
        omega
      have hn64 := hid hv
      have HY : Hid (wr.heap.size ≠ X) := by
        show _ ≠ _
        have := HM.out.1
        have : X < wr.heap.size := this.elim (fun h => h.lt) (fun h => h.lt)
        omega
      clear g0 g1 hb hv HN
      generalize ps[k] = p at *
      obtain ⟨s, n⟩ := p
      replace hc0 : wr.cell? ⟨b, k * 2, none⟩ = some (.string s) := hc0
      replace hc1 : wr.cell? ⟨b, k * 2 + 1, none⟩ = some (.int .u64 (n : Int)) := hc1
      replace hn64 : Hid (n < 18446744073709551616) := hn64
      have HA := hid (at_new wr #[.string s, .int .u64 (n : Int)] 30)
      have HM2 := hid (made_kept HM.out (kept_alloc (kept_refl wr) (.cells #[.string s, .int .u64 (n : Int)] 30)))
      have HK2 := hid (kept_alloc HK.out (.cells #[.string s, .int .u64 (n : Int)] 30))
      subst hoa
      clear HM
      go_wp2_with fail
      clear hc0 hc1
      generalize wr.alloc (.cells #[.string s, .int .u64 (n : Int)] 30) = w2 at *
      generalize wr.heap.size = Y at *
      have hA := HA.out
      have hM := HM2.out
      have k0 := HK2.out
      clear HA HM2 HK2 HK
      obtain ⟨c0, c1⟩ := cells2 hA
      refine wp_region_noPanic ?_
      refine wp_region_held_drew (S := (fun w' => w'.cell? ⟨Y, 0, none⟩ = some (.string s) ∧ w'.cell? ⟨Y, 1, none⟩ = some (.int .u64 (n : Int)))) (by kernel_rfl) (cells2 hA) (fun hHeld => ?_)
      refine wpAnyH_take (i := 0) (v := .pointer (some ⟨Y, 0, none⟩)) rfl (by kernel_rfl) (by kernel_rfl) (by kernel_rfl) (fun _ _ _ h => h) (Or.inl ⟨by rfl, fun w hSw => by (try dsimp only at hSw); go_simp⟩) (by assumption) ?_
      try simp only [List.getElem_toArray, List.getElem_cons_zero, List.getElem_cons_succ, Act.put, List.setIfInBounds_toArray, List.set_cons_zero, List.set_cons_succ]
      refine wpAnyH_take (i := 1) (v := .string s) rfl (by kernel_rfl) (by kernel_rfl) (by kernel_rfl) (fun _ _ _ h => h) (Or.inl ⟨by rfl, fun w hSw => by (try dsimp only at hSw); go_simp⟩) (by assumption) ?_
      try simp only [List.getElem_toArray, List.getElem_cons_zero, List.getElem_cons_succ, Act.put, List.setIfInBounds_toArray, List.set_cons_zero, List.set_cons_succ]
      refine wpAnyH_take (i := 2) (v := .pointer (some ⟨Y, 1, none⟩)) rfl (by kernel_rfl) (by kernel_rfl) (by kernel_rfl) (fun _ _ _ h => h) (Or.inl ⟨by rfl, fun w hSw => by (try dsimp only at hSw); go_simp⟩) (by assumption) ?_
      try simp only [List.getElem_toArray, List.getElem_cons_zero, List.getElem_cons_succ, Act.put, List.setIfInBounds_toArray, List.set_cons_zero, List.set_cons_succ]
      refine wpAnyH_take (i := 3) (v := .int .u64 (n : Int)) rfl (by kernel_rfl) (by kernel_rfl) (by kernel_rfl) (fun _ _ _ h => h) (Or.inl ⟨by rfl, fun w hSw => by (try dsimp only at hSw); go_simp⟩) (by assumption) ?_
      try simp only [List.getElem_toArray, List.getElem_cons_zero, List.getElem_cons_succ, Act.put, List.setIfInBounds_toArray, List.set_cons_zero, List.set_cons_succ]
      refine wpAnyH_ready (rs := [4]) (by kernel_rfl) (by simp) ?_
      refine AllReadyH.cons (i := 4) rfl (fun K hK => ?_) AllReadyH.nil
      go_simp
      refine (digits_any n hn64.out _ (base_kept hB (kept_drew k0))).mono ?_
      rintro e w3 ⟨rfl, h3⟩
      replace hA := at_kept hA h3
      replace hM := made_kept hM h3
      replace k0 := kept_trans k0 h3
      clear h3
      clear hHeld
      show K _ _
      refine hK.out _ _ (cells2 hA) (fun hHeld => ?_)
      clear hK K
      try simp only [List.getElem_toArray, List.getElem_cons_zero, List.getElem_cons_succ, Act.put, List.setIfInBounds_toArray, List.set_cons_zero, List.set_cons_succ]
      refine wpAnyH_ready (rs := [5]) (by kernel_rfl) (by simp) ?_
      refine AllReadyH.cons (i := 5) rfl (fun K hK => ?_) AllReadyH.nil
      go_simp
      have hZ := at_new w3 #[.string ⟨#[83, 84, 65, 84]⟩, .string s, .string ⟨(Lib.decDigits n).toArray⟩] 9
      replace hA := at_alloc hA (.cells #[.string ⟨#[83, 84, 65, 84]⟩, .string s, .string ⟨(Lib.decDigits n).toArray⟩] 9)
      replace hM := made_kept hM (kept_alloc (kept_refl w3) (.cells #[.string ⟨#[83, 84, 65, 84]⟩, .string s, .string ⟨(Lib.decDigits n).toArray⟩] 9))
      replace k0 := kept_alloc k0 (.cells #[.string ⟨#[83, 84, 65, 84]⟩, .string s, .string ⟨(Lib.decDigits n).toArray⟩] 9)
      generalize w3.alloc (.cells #[.string ⟨#[83, 84, 65, 84]⟩, .string s, .string ⟨(Lib.decDigits n).toArray⟩] 9) = w4 at *
      generalize w3.heap.size = Z at *
      clear hHeld
      show K _ _
      refine hK.out _ _ (cells2 hA) (fun hHeld => ?_)
      clear hK K
      try simp only [List.getElem_toArray, List.getElem_cons_zero, List.getElem_cons_succ, Act.put, List.setIfInBounds_toArray, List.set_cons_zero, List.set_cons_succ]
      refine wpAnyH_ready (rs := [6]) (by kernel_rfl) (by simp) ?_
      refine AllReadyH.cons (i := 6) rfl (fun K hK => ?_) AllReadyH.nil
      go_simp
      refine (say3 (s, n) Z hM hZ HL.out).mono ?_
      rintro e w5 ⟨rfl, hm5, hs5⟩
      replace hA := at_said hA hs5 HY.out (by decide)
      replace k0 := kept_said k0 hs5 HX.out
      replace hM := hm5
      clear hm5 hs5 hZ
      clear hHeld
      show K _ _
      refine hK.out _ _ (cells2 hA) (fun hHeld => ?_)
      clear hK K
      try simp only [List.getElem_toArray, List.getElem_cons_zero, List.getElem_cons_succ, Act.put, List.setIfInBounds_toArray, List.set_cons_zero, List.set_cons_succ]
      refine wpAnyH_done (by kernel_rfl) ?_ _
      refine NoPanic.normal ?_
      have k7 := hid k0
      have M7 : Hid (Made X X ((ps.take (k + 1)).flatMap statR) w5) := by
        rw [← HS.out] at hM
        exact hM
      clear hM k0 hA hHeld c0 c1
      go_wp2
      go_roundw
      case rel => exact ⟨k + 1, by omega, by go_num, M7, k7⟩
      case measure => simp [intOf]; omega
    · have hk2 : k = len := by omega
      have HM2 : Hid (Made X X (ps.flatMap statR) wr) := by
        have := HM.out
        rw [hk2, ← H0.out, List.take_length] at this
        exact this
      have hc1 := write_any ⟨#[69, 78, 68, 13, 10]⟩ wr HM2.out (by have := HN.out; show (ps.flatMap statR).length + 5 ≤ _; omega)
      clear HM HM2 HN H5 H4 hk2
      go_wp2_with fail
      refine hc1.mono ?_
      rintro e w2 ⟨rfl, hm2, hs2⟩
      have k2 := hid (kept_said HK.out hs2 HX.out)
      have hc2 := lib_String X X (ps.flatMap statR ++ [69, 78, 68, 13, 10]) w2 hm2.1 hm2.2
      clear hc1 hm2 hs2 HK
      go_wp2_with fail
      refine hc2.mono ?_
      rintro e w3 ⟨rfl, -, hb3, ho3⟩
      go_wp2_with fail
      go_ret
      exact ⟨rfl, kept_said k2.out ⟨hb3, ho3⟩ HX.out⟩
set_option maxHeartbeats 3200000 in
set_option maxRecDepth 100000 in
theorem refStats_any (oa : Option Addr) (len cap b : Nat) (ps : List (ByteArray × Nat)) (w : World) (hR : Row2 w oa len cap b ps) :
    Calls Tryd.prog 13 #[.slice oa len cap] w fun e w' => e = .returned (.string ⟨(statsR ps).toArray⟩) ∧ Kept w w' := by
  have HN := hid (row2_size hR)
  obtain ⟨h0, h1, h2, h4, h5⟩ := hR
  have H0 : Hid (ps.length = len) := h0
  have H4 : Hid (0 < len → oa = some ⟨b, 0, none⟩ ∧ b < w.heap.size) := h4
  have H5 : Hid (∀ i (h : i < ps.length), ps[i].1.size ≤ 1000 ∧ ps[i].2 < 18446744073709551616 ∧ w.cell? ⟨b, i * 2, none⟩ = some (.string ps[i].1) ∧ w.cell? ⟨b, i * 2 + 1, none⟩ = some (.int .u64 (ps[i].2 : Int))) := h5
  have K0 := hid (kept_refl w)
  have z1 : (⟨#[83, 84, 65, 84, 32]⟩ : ByteArray).size = 5 := rfl
  have z2 : (⟨#[32]⟩ : ByteArray).size = 1 := rfl
  have z3 : (⟨#[13, 10]⟩ : ByteArray).size = 2 := rfl
  clear h0 h4 h5
  go_enter Tryd.func13, Tryd.ntmps13
  go_wp2
  go_loopw [3, 7] (fun v3 j wr => ∃ k : Nat, k ≤ len ∧ j = .int .i64 k ∧ v3 = .string ⟨((ps.take k).flatMap statR).toArray⟩ ∧ Hid (Kept w wr)) (fun _ j _ => len - (intOf j).toNat)
  case atStart => exact ⟨0, Nat.zero_le _, rfl, by simp, K0⟩
  case round =>
    obtain ⟨k, hk, rfl, rfl, HK⟩ := hrel
    by_cases hlt : k < len
    · have hkL : k < ps.length := by rw [H0.out]; exact hlt
      obtain ⟨hoa, hb⟩ := H4.out (by omega)
      obtain ⟨hns, hv, g0, g1⟩ := H5.out k hkL
      have hc0 := (kept_cell HK.out hb).trans g0
      have hc1 := (kept_cell HK.out hb).trans g1
      have hle := flat_le statR ps k
      have q1 : (⟨((ps.take k).flatMap statR).toArray⟩ : ByteArray).size ≤ 55000 := by rw [mk_size]; have := HN.out; omega
      have HT : Hid (∀ d : ByteArray, d = ⟨(dec ps[k].2).toArray⟩ → (⟨((ps.take k).flatMap statR).toArray⟩ : ByteArray) ++ ((⟨#[83, 84, 65, 84, 32]⟩ : ByteArray) ++ ps[k].1 ++ ⟨#[32]⟩ ++ d ++ ⟨#[13, 10]⟩) = ⟨((ps.take (k + 1)).flatMap statR).toArray⟩) := fun d hd => by
        apply bytes_ext
        simp only [ba_append, mk_list, flat_succ statR ps k hkL, hd]
        unfold statR
        simp
      have hD := fun u => Decimal_any ps[k].2 hv u
      have hds := dec_len 20 ps[k].2 (by omega) (by omega)
      clear g0 g1 hb hle hv
      generalize (⟨((ps.take k).flatMap statR).toArray⟩ : ByteArray) = T at *
      generalize ps[k] = p at *
      obtain ⟨s, n⟩ := p
      replace hc0 : wr.cell? ⟨b, k * 2, none⟩ = some (.string s) := hc0
      replace hc1 : wr.cell? ⟨b, k * 2 + 1, none⟩ = some (.int .u64 (n : Int)) := hc1
      replace hns : s.size ≤ 1000 := hns
      obtain ⟨d, hd⟩ : ∃ d : ByteArray, d = ⟨(dec n).toArray⟩ := ⟨_, rfl⟩
      have HT2 := hid (HT.out d hd)
      have hdd : d.size ≤ 20 := by rw [hd, mk_size]; exact hds
      replace hD : ∀ u, Calls Tryd.prog 23 #[.int .u64 (n : Int)] u fun e w' => e = .returned (.string d) ∧ Kept u w' := fun u => by rw [hd]; exact hD u
      clear HT hds hd
      subst hoa
      go_wp2_with fail
      refine wp_region_noPanic ?_
      refine wp_region_held_drew (S := (fun w' => w'.cell? ⟨b, k * 2, none⟩ = some (.string s) ∧ w'.cell? ⟨b, k * 2 + 1, none⟩ = some (.int .u64 (n : Int)))) (by kernel_rfl) (⟨hc0, hc1⟩) (fun hHeld => ?_)
      refine wpAnyH_take (i := 0) (v := .string T) rfl (by kernel_rfl) (by kernel_rfl) (by kernel_rfl) (fun _ _ _ h => h) (Or.inl ⟨by rfl, fun w hSw => by (try dsimp only at hSw); go_simp⟩) (by assumption) ?_
      try simp only [List.getElem_toArray, List.getElem_cons_zero, List.getElem_cons_succ, Act.put, List.setIfInBounds_toArray, List.set_cons_zero, List.set_cons_succ]
      refine wpAnyH_take (i := 1) (v := .slice (some ⟨b, 0, none⟩) len cap) rfl (by kernel_rfl) (by kernel_rfl) (by kernel_rfl) (fun _ _ _ h => h) (Or.inl ⟨by rfl, fun w hSw => by (try dsimp only at hSw); go_simp⟩) (by assumption) ?_
      try simp only [List.getElem_toArray, List.getElem_cons_zero, List.getElem_cons_succ, Act.put, List.setIfInBounds_toArray, List.set_cons_zero, List.set_cons_succ]
      refine wpAnyH_take (i := 2) (v := .int .i64 (k : Int)) rfl (by kernel_rfl) (by kernel_rfl) (by kernel_rfl) (fun _ _ _ h => h) (Or.inl ⟨by rfl, fun w hSw => by (try dsimp only at hSw); go_simp⟩) (by assumption) ?_
      try simp only [List.getElem_toArray, List.getElem_cons_zero, List.getElem_cons_succ, Act.put, List.setIfInBounds_toArray, List.set_cons_zero, List.set_cons_succ]
      refine wpAnyH_take (i := 3) (v := .pointer (some ⟨b, k * 2, none⟩)) rfl (by kernel_rfl) (by kernel_rfl) (by kernel_rfl) (fun _ _ _ h => h) (Or.inl ⟨by rfl, fun w hSw => by (try dsimp only at hSw); go_simp⟩) (by assumption) ?_
      try simp only [List.getElem_toArray, List.getElem_cons_zero, List.getElem_cons_succ, Act.put, List.setIfInBounds_toArray, List.set_cons_zero, List.set_cons_succ]
      refine wpAnyH_take (i := 4) (v := .pointer (some ⟨b, k * 2, none⟩)) rfl (by kernel_rfl) (by kernel_rfl) (by kernel_rfl) (fun _ _ _ h => h) (Or.inl ⟨by rfl, fun w hSw => by (try dsimp only at hSw); go_simp⟩) (by assumption) ?_
      try simp only [List.getElem_toArray, List.getElem_cons_zero, List.getElem_cons_succ, Act.put, List.setIfInBounds_toArray, List.set_cons_zero, List.set_cons_succ]
      refine wpAnyH_take (i := 5) (v := .string s) rfl (by kernel_rfl) (by kernel_rfl) (by kernel_rfl) (fun _ _ _ h => h) (Or.inl ⟨by rfl, fun w hSw => by (try dsimp only at hSw); go_simp⟩) (by assumption) ?_
      try simp only [List.getElem_toArray, List.getElem_cons_zero, List.getElem_cons_succ, Act.put, List.setIfInBounds_toArray, List.set_cons_zero, List.set_cons_succ]
      refine wpAnyH_take (i := 6) (v := .string ((⟨#[83, 84, 65, 84, 32]⟩ : ByteArray) ++ s)) rfl (by kernel_rfl) (by kernel_rfl) (by kernel_rfl) (fun _ _ _ h => h) (Or.inl ⟨by rfl, fun w hSw => by (try dsimp only at hSw); go_simp; omega⟩) (by assumption) ?_
      try simp only [List.getElem_toArray, List.getElem_cons_zero, List.getElem_cons_succ, Act.put, List.setIfInBounds_toArray, List.set_cons_zero, List.set_cons_succ]
      refine wpAnyH_take (i := 7) (v := .string ((⟨#[83, 84, 65, 84, 32]⟩ : ByteArray) ++ s ++ (⟨#[32]⟩ : ByteArray))) rfl (by kernel_rfl) (by kernel_rfl) (by kernel_rfl) (fun _ _ _ h => h) (Or.inl ⟨by rfl, fun w hSw => by (try dsimp only at hSw); go_simp; omega⟩) (by assumption) ?_
      try simp only [List.getElem_toArray, List.getElem_cons_zero, List.getElem_cons_succ, Act.put, List.setIfInBounds_toArray, List.set_cons_zero, List.set_cons_succ]
      refine wpAnyH_take (i := 8) (v := .slice (some ⟨b, 0, none⟩) len cap) rfl (by kernel_rfl) (by kernel_rfl) (by kernel_rfl) (fun _ _ _ h => h) (Or.inl ⟨by rfl, fun w hSw => by (try dsimp only at hSw); go_simp⟩) (by assumption) ?_
      try simp only [List.getElem_toArray, List.getElem_cons_zero, List.getElem_cons_succ, Act.put, List.setIfInBounds_toArray, List.set_cons_zero, List.set_cons_succ]
      refine wpAnyH_take (i := 9) (v := .int .i64 (k : Int)) rfl (by kernel_rfl) (by kernel_rfl) (by kernel_rfl) (fun _ _ _ h => h) (Or.inl ⟨by rfl, fun w hSw => by (try dsimp only at hSw); go_simp⟩) (by assumption) ?_
      try simp only [List.getElem_toArray, List.getElem_cons_zero, List.getElem_cons_succ, Act.put, List.setIfInBounds_toArray, List.set_cons_zero, List.set_cons_succ]
      refine wpAnyH_take (i := 10) (v := .pointer (some ⟨b, k * 2, none⟩)) rfl (by kernel_rfl) (by kernel_rfl) (by kernel_rfl) (fun _ _ _ h => h) (Or.inl ⟨by rfl, fun w hSw => by (try dsimp only at hSw); go_simp⟩) (by assumption) ?_
      try simp only [List.getElem_toArray, List.getElem_cons_zero, List.getElem_cons_succ, Act.put, List.setIfInBounds_toArray, List.set_cons_zero, List.set_cons_succ]
      refine wpAnyH_take (i := 11) (v := .pointer (some ⟨b, k * 2 + 1, none⟩)) rfl (by kernel_rfl) (by kernel_rfl) (by kernel_rfl) (fun _ _ _ h => h) (Or.inl ⟨by rfl, fun w hSw => by (try dsimp only at hSw); go_simp⟩) (by assumption) ?_
      try simp only [List.getElem_toArray, List.getElem_cons_zero, List.getElem_cons_succ, Act.put, List.setIfInBounds_toArray, List.set_cons_zero, List.set_cons_succ]
      refine wpAnyH_take (i := 12) (v := .int .u64 (n : Int)) rfl (by kernel_rfl) (by kernel_rfl) (by kernel_rfl) (fun _ _ _ h => h) (Or.inl ⟨by rfl, fun w hSw => by (try dsimp only at hSw); go_simp⟩) (by assumption) ?_
      try simp only [List.getElem_toArray, List.getElem_cons_zero, List.getElem_cons_succ, Act.put, List.setIfInBounds_toArray, List.set_cons_zero, List.set_cons_succ]
      refine wpAnyH_ready (rs := [13]) (by kernel_rfl) (by simp) ?_
      refine AllReadyH.cons (i := 13) rfl (fun K hK => ?_) AllReadyH.nil
      go_simp
      refine (hD _).mono ?_
      rintro e w3 ⟨rfl, h3⟩
      replace hc0 := (kept_cell h3 (cell_lt hc0)).trans hc0
      replace hc1 := (kept_cell h3 (cell_lt hc1)).trans hc1
      have k2 := hid (kept_trans (kept_drew HK.out) h3)
      clear h3
      clear hHeld
      show K _ _
      refine hK.out _ _ (⟨hc0, hc1⟩) (fun hHeld => ?_)
      clear hK K
      try simp only [List.getElem_toArray, List.getElem_cons_zero, List.getElem_cons_succ, Act.put, List.setIfInBounds_toArray, List.set_cons_zero, List.set_cons_succ]
      refine wpAnyH_take (i := 14) (v := .string ((⟨#[83, 84, 65, 84, 32]⟩ : ByteArray) ++ s ++ (⟨#[32]⟩ : ByteArray) ++ d)) rfl (by kernel_rfl) (by kernel_rfl) (by kernel_rfl) (fun _ _ _ h => h) (Or.inl ⟨by rfl, fun w hSw => by (try dsimp only at hSw); go_simp; omega⟩) (by assumption) ?_
      try simp only [List.getElem_toArray, List.getElem_cons_zero, List.getElem_cons_succ, Act.put, List.setIfInBounds_toArray, List.set_cons_zero, List.set_cons_succ]
      refine wpAnyH_take (i := 15) (v := .string ((⟨#[83, 84, 65, 84, 32]⟩ : ByteArray) ++ s ++ (⟨#[32]⟩ : ByteArray) ++ d ++ (⟨#[13, 10]⟩ : ByteArray))) rfl (by kernel_rfl) (by kernel_rfl) (by kernel_rfl) (fun _ _ _ h => h) (Or.inl ⟨by rfl, fun w hSw => by (try dsimp only at hSw); go_simp; omega⟩) (by assumption) ?_
      try simp only [List.getElem_toArray, List.getElem_cons_zero, List.getElem_cons_succ, Act.put, List.setIfInBounds_toArray, List.set_cons_zero, List.set_cons_succ]
      refine wpAnyH_take (i := 16) (v := .string (T ++ ((⟨#[83, 84, 65, 84, 32]⟩ : ByteArray) ++ s ++ (⟨#[32]⟩ : ByteArray) ++ d ++ (⟨#[13, 10]⟩ : ByteArray)))) rfl (by kernel_rfl) (by kernel_rfl) (by kernel_rfl) (fun _ _ _ h => h) (Or.inl ⟨by rfl, fun w hSw => by (try dsimp only at hSw); go_simp; omega⟩) (by assumption) ?_
      try simp only [List.getElem_toArray, List.getElem_cons_zero, List.getElem_cons_succ, Act.put, List.setIfInBounds_toArray, List.set_cons_zero, List.set_cons_succ]
      refine wpAnyH_take (i := 17) (v := .string (T ++ ((⟨#[83, 84, 65, 84, 32]⟩ : ByteArray) ++ s ++ (⟨#[32]⟩ : ByteArray) ++ d ++ (⟨#[13, 10]⟩ : ByteArray)))) rfl (by kernel_rfl) (by kernel_rfl) (by kernel_rfl) (fun _ _ _ h => h) (Or.inl ⟨by rfl, fun w hSw => by (try dsimp only at hSw); go_simp⟩) (by assumption) ?_
      try simp only [List.getElem_toArray, List.getElem_cons_zero, List.getElem_cons_succ, Act.put, List.setIfInBounds_toArray, List.set_cons_zero, List.set_cons_succ]
      refine wpAnyH_done (by kernel_rfl) ?_ _
      refine NoPanic.normal ?_
      clear hc0 hc1 hD hHeld
      go_wp2
      go_roundw
      case rel => exact ⟨k + 1, by omega, by go_num, by rw [← HT2.out], k2⟩
      case measure => simp [intOf]; omega
    · have hk2 : ps.take k = ps := List.take_of_length_le (by rw [H0.out]; omega)
      rw [hk2]
      have HT : Hid ((⟨(ps.flatMap statR).toArray⟩ : ByteArray) ++ ⟨#[69, 78, 68, 13, 10]⟩ = ⟨(statsR ps).toArray⟩) := by
        apply bytes_ext
        rw [ba_append, mk_list, mk_list]
        rfl
      have q1 : (⟨(ps.flatMap statR).toArray⟩ : ByteArray).size ≤ 55000 := by rw [mk_size]; exact HN.out
      have q2 : (⟨#[69, 78, 68, 13, 10]⟩ : ByteArray).size = 5 := rfl
      clear hk2
      generalize (⟨(ps.flatMap statR).toArray⟩ : ByteArray) = T at *
      go_wp2
      go_ret
      exact ⟨by rw [← HT.out]; rfl, HK.out⟩
end Go.Proofs.YtlbpmehlfihpbaaDoor
