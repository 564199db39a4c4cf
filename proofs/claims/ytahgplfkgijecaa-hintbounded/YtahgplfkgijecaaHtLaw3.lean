/- The walk of HintBounded, out of what the landed hints must answer. -/
import Derived.Test.YtahgplfkgijecaaHtCut
import Derived.Handy
namespace Go.Proofs.Ytahgplfkgijecaa
open Go.ChangeShapes Go.WideShapes Go.ChangeAt Go.RowKit
set_option linter.unusedVariables false
set_option linter.unusedSimpArgs false
set_option maxRecDepth 100000

theorem less_cmp : ∀ a b : List UInt8, Op.bytesLess a b = decide (Lib.compareBytes a b < 0)
  | [], [] => by simp [Op.bytesLess, Lib.compareBytes]
  | [], b :: bs => by simp [Op.bytesLess, Lib.compareBytes]
  | a :: xs, [] => by simp [Op.bytesLess, Lib.compareBytes]
  | a :: xs, b :: bs => by
    have ih := less_cmp xs bs
    show Op.bytesLess (a :: xs) (b :: bs) = decide ((if a < b then (-1 : Int) else if b < a then 1 else Lib.compareBytes xs bs) < 0)
    rcases u8_cases a b with h | h | h
    · simp [Op.bytesLess, h]
    · subst h
      have hn : ¬ a < a := by simp
      simp [Op.bytesLess, hn, ih]
    · have hn : ¬ a < b := by
        intro hh
        have h1 := UInt8.lt_iff_toNat_lt.1 h
        have h2 := UInt8.lt_iff_toNat_lt.1 hh
        omega
      have hn2 : a ≠ b := by
        rintro rfl
        exact hn h
      simp [Op.bytesLess, hn, h, hn2]
theorem less_keys {a b : ByteArray} (h : cmpB b a < 0) : Op.bytesLess a.toList b.toList = false ∧ (a.toList == b.toList) = false := by
  rw [less_cmp, Lib.toList_data, Lib.toList_data]
  have h1 : cmpB a b = - cmpB b a := cmpB_flip b a
  have h2 : Lib.compareBytes a.data.toList b.data.toList = cmpB a b := rfl
  refine ⟨by rw [h2]; simp; omega, ?_⟩
  rw [beq_eq_false_iff_ne]
  intro e
  have : cmpB a b = 0 := by
    show Lib.compareBytes a.data.toList b.data.toList = 0
    exact (cb_zero _ _).2 e
  omega
/- Nobody has any. -/
def Nb (l : List Ht) : Prop := ∀ h ∈ l, h.has = nob
theorem nb_add {n : Nat} {l : List Ht} (g : Nb l) (r : R) : Nb (addL n l r) := by
  unfold addL
  split
  · exact g
  · split
    · split
      · intro h hm
        rcases List.mem_or_eq_of_mem_set hm with hm | rfl
        · exact g h hm
        · rfl
      · exact g
    · split
      · exact g
      · intro h hm
        rcases ins_mem.1 hm with rfl | hm
        · rfl
        · exact g h hm
theorem cells11 {w : World} {X T : Nat} {a0 a1 a2 a3 a4 a5 a6 a7 a8 a9 a10 : Value} (h : At w X #[a0, a1, a2, a3, a4, a5, a6, a7, a8, a9, a10] T) : w.cell? ⟨X, 0, none⟩ = some a0 ∧ w.cell? ⟨X, 1, none⟩ = some a1 ∧ w.cell? ⟨X, 2, none⟩ = some a2 ∧ w.cell? ⟨X, 3, none⟩ = some a3 ∧ w.cell? ⟨X, 4, none⟩ = some a4 ∧ w.cell? ⟨X, 5, none⟩ = some a5 ∧ w.cell? ⟨X, 6, none⟩ = some a6 ∧ w.cell? ⟨X, 7, none⟩ = some a7 ∧ w.cell? ⟨X, 8, none⟩ = some a8 ∧ w.cell? ⟨X, 9, none⟩ = some a9 ∧ w.cell? ⟨X, 10, none⟩ = some a10 :=
  ⟨at_cell h 0, at_cell h 1, at_cell h 2, at_cell h 3, at_cell h 4, at_cell h 5, at_cell h 6, at_cell h 7, at_cell h 8, at_cell h 9, at_cell h 10⟩
set_option maxHeartbeats 6400000 in
theorem bounded_walk {T : Shape Hs} (hT : HintsIs T) (n8 : Int) (hn8 : okU n8) (ops : List Opn) (v : Value) (w : World) (hx : ∀ o ∈ ops, OpOk w o) (h : Rg encO 11 w v ops) : Calls Try.prog 5 #[.int .u8 n8, v] w fun e w' => e = .returned (.bool true) ∧ Kept w w' := by
  have HT := hid hT
  have HF := hid (fun u => fixed_any hT u)
  have HR := hid h
  have HX := hid hx
  have HC := hid (fun u (ku : Kept w u) => cut_any ops v u (rg_kept encO_ok h ku))
  obtain ⟨a, cap, rfl, hc1, hc2, -, -⟩ := h
  unfold maxLen at hc2
  have HP : Hid (0 < ops.length → ∃ g o, a = some ⟨g, o, none⟩) := hid (fun hp => by
    obtain ⟨g, o, c, e⟩ := rg_pos HR.out hp
    injection e with e1
    exact ⟨g, o, e1⟩)
  obtain ⟨k0, hk0⟩ : ∃ r : Nat, n8 % 64 = (r : Int) := ⟨(n8 % 64).toNat, by have := hn8.1; omega⟩
  have e1 : Int.tmod n8 64 = (k0 : Int) := by rw [Int.tmod_eq_emod_of_nonneg hn8.1, hk0]
  have e2 : IntKind.i64.wrap n8 = n8 := IntWalk.i64_in _ (by have := hn8.1; have := hn8.2; omega)
  have e3 : IntKind.i64.wrap (k0 : Int) = (k0 : Int) := IntWalk.i64_in _ (by omega)
  have e4 : IntKind.i64.wrap (1 + (k0 : Int)) = ((1 + k0 : Nat) : Int) := by rw [IntWalk.i64_in _ (by omega)]; omega
  have hk64 : k0 < 64 := by omega
  generalize hk : 1 + k0 = k at *
  have hk2 : 1 ≤ k ∧ k ≤ 64 := by omega
  have hN := ht_new (T := T) (W := w) (n := k) hT (kept_refl w) hk2.1 hk2.2
  have HG0 := hid (hg_nil hk2.1 hk2.2)
  have hz := zeroO
  generalize hm : ops.length = m at *
  have HM := hid hm
  clear hm hT hx hn8 hk0 hk64 hk hk2
  go_enter Try.func5, Try.ntmps5
  go_wp2_with fail
  refine hN.mono ?_
  rintro e w1 ⟨X, F, rfl, t1, -⟩
  have HT1 := hid t1
  clear t1 hN e1 e2 e3 e4
  go_wp2_with fail
  refine (HF.out w1).mono ?_
  rintro e w2 ⟨rfl, k2⟩
  have HT2 := hid (tt_kept HT.out.obj HT1.out k2)
  clear k2 HT1 HF
  go_wp2_with fail
  refine (HC.out w2 HT2.out.k).mono ?_
  rintro e w3 ⟨c, hc, hc81, hfin, ⟨a', n', cap', ev, rfl⟩, k3⟩
  injection ev with ev1 ev2 ev3
  subst ev1 ev2 ev3
  rw [HM.out] at hc
  have HT3 := hid (tt_kept HT.out.obj HT2.out k3)
  have HFi : Hid (∀ i, i < c → ∃ y, ops[i]? = some y ∧ OpOk w y ∧ Fine y) := hid (fun i hi => by
    have hil : i < ops.length := by rw [HM.out]; omega
    refine ⟨ops[i], List.getElem?_eq_getElem hil, HX.out _ (List.getElem_mem hil), hfin _ ?_⟩
    rw [List.mem_iff_getElem?]
    exact ⟨i, by rw [List.getElem?_take, if_pos hi]; exact List.getElem?_eq_getElem hil⟩)
  clear hfin k3 HT2 HC
  go_wp2_with fail
  go_loopw [30] (fun iv wr => ∃ (i : Nat) (l : List Ht) (F' : Nat → Prop), i ≤ c ∧ iv = .int .i64 (i : Int) ∧ Hid (Hg k l ∧ Nb l) ∧ Hid (TT T w X ⟨k, l⟩ F' wr)) (fun iv _ => c - (intOf iv).toNat)
  case atStart => exact ⟨0, [], F, by omega, rfl, hid ⟨HG0.out, by intro h hm; simp at hm⟩, HT3⟩
  case round =>
    obtain ⟨i, l, F', hi, rfl, HI, HTr⟩ := hrel
    clear HT3 HG0
    by_cases hlt : i < c
    · have hltz : (i : Int) < (c : Int) := by omega
      obtain ⟨y, hy, hyk, hyf⟩ := HFi.out i hlt
      obtain ⟨gg, oo, rfl⟩ := HP.out (by omega)
      obtain ⟨c0, c1, c2, c3, c4, c5, c6, c7, c8, c9, c10⟩ := rg_O (rg_kept encO_ok HR.out HTr.out.k) hy
      have HZ := hid (at_new wr #[.int .i64 y.kind, .string y.r.key, .int .u64 y.r.s.p, .int .u32 y.r.s.l, .int .u8 y.r.s.n, .int .u8 y.r.kind, .int .u32 y.r.flags, .int .u64 y.r.exp, .string y.r.body, .int .u8 y.node, .slice y.uv y.up.length y.uc] 38)
      have ka := kept_alloc (kept_refl wr) (.cells #[.int .i64 y.kind, .string y.r.key, .int .u64 y.r.s.p, .int .u32 y.r.s.l, .int .u8 y.r.s.n, .int .u8 y.r.kind, .int .u32 y.r.flags, .int .u64 y.r.exp, .string y.r.body, .int .u8 y.node, .slice y.uv y.up.length y.uc] 38)
      have hA := ht_add HT.out (tt_kept HT.out.obj HTr.out ka) HI.out.1 hyk.1 ⟨hyf.1, hyf.2.1⟩
      have HG2 : Hid (Hg k (addL k l y.r) ∧ Nb (addL k l y.r)) := hid ⟨hg_add HI.out.1 hyk.1, nb_add HI.out.2 y.r⟩
      obtain ⟨p0, p1, p2, p3, p4, p5, p6, p7, p8, p9, p10⟩ := cells11 HZ.out
      clear hy hyk hyf ka
      go_wp2_with fail
      refine hA.mono ?_
      rintro e w4 ⟨F4, rfl, t4, -⟩
      have hL := ht_len HT.out t4 HG2.out.1
      clear t4 hA c0 c1 c2 c3 c4 c5 c6 c7 c8 c9 c10 p0 p1 p2 p3 p4 p5 p6 p7 p8 p9 p10 HZ
      go_wp2_with fail
      refine hL.mono ?_
      rintro e w5 ⟨rfl, t5, -⟩
      have HT5 := hid t5
      have hle : ¬ (k : Int) < ((addL k l y.r).length : Int) := by have := HG2.out.1.len; omega
      clear t5 hL
      go_wp2_with fail
      go_roundw
      case rel => exact ⟨i + 1, addL k l y.r, F4, by omega, by go_num, HG2, HT5⟩
      case measure => simp [intOf]; omega
    · have hltz : ¬ (i : Int) < (c : Int) := by omega
      have hAll := ht_all HT.out HTr.out HI.out.1
      go_wp2_with fail
      refine hAll.mono ?_
      rintro e w4 ⟨r, F4, rfl, o4, -, -, t4, -⟩
      have HO4 := hid o4
      have HK4 := hid t4.k
      obtain ⟨ra, rc, rfl, -, -⟩ := og_is encH_ok o4
      have hll : l.length ≤ 64 := by have := HI.out.1.len; have := HI.out.1.n2; omega
      clear o4 t4 hAll HTr
      generalize hq : l.length = q at *
      have HQ := hid hq
      clear hq
      go_wp2_with fail
      go_loopw [47] (fun jv wr => ∃ j : Nat, j ≤ q ∧ jv = .int .i64 (j : Int) ∧ Hid (Kept w4 wr)) (fun jv _ => q - (intOf jv).toNat)
      case atStart => exact ⟨0, by omega, rfl, hid (kept_refl w4)⟩
      case round =>
        obtain ⟨j, hj, rfl, HKr⟩ := hrel
        by_cases hjl : j < q
        · have hjz : (j : Int) < (q : Int) := by omega
          obtain ⟨x, hx⟩ : ∃ x, l[j]? = some x := ⟨l[j]'(by have := HQ.out; omega), List.getElem?_eq_getElem (by have := HQ.out; omega)⟩
          have hxm := HI.out.1.may x (List.mem_of_getElem? hx)
          have hxb := HI.out.2 x (List.mem_of_getElem? hx)
          have HRg := hid (rg_kept encH_ok (rg_own encH_ok HO4.out) HKr.out)
          obtain ⟨gq, oq, rfl⟩ : ∃ g o, ra = some ⟨g, o, none⟩ := by
            obtain ⟨g, o, c, e⟩ := rg_pos HRg.out (by have := HQ.out; omega)
            injection e with e1
            exact ⟨g, o, e1⟩
          obtain ⟨d0, d1, d2, d3, d4, d5, d6, d7, d8⟩ := rg_H HRg.out hx
          rw [hxb, ack_nob] at d8
          have hk3 : (x.r.kind == 3) = false := by rw [beq_eq_false_iff_ne]; exact hxm.2.1
          by_cases h0 : 0 < j
          · obtain ⟨jp, hjp⟩ : ∃ jp, j = jp + 1 := ⟨j - 1, by omega⟩
            obtain ⟨x0, hx0⟩ : ∃ x, l[jp]? = some x := ⟨l[jp]'(by have := HQ.out; omega), List.getElem?_eq_getElem (by have := HQ.out; omega)⟩
            obtain ⟨f0, -⟩ := rg_H HRg.out hx0
            have hw : IntKind.i64.wrap ((j : Int) - 1) = (jp : Int) := by rw [IntWalk.i64_in _ (by omega)]; omega
            have hpz : (jp : Int) < (q : Int) := by omega
            have h0z : decide ((0 : Int) < (j : Int)) = true := by simp; omega
            have h0n : decide (0 < j) = true := by simp; omega
            obtain ⟨k1, k2⟩ := less_keys (rise_once (k := x.r.key) HI.out.1.rise jp j x0 x hx0 hx (by omega))
            have hleq : ∀ u : World, (binOp .leq 9 (.string x.r.key) (.string x0.r.key)).run Try.prog u = .ok (.bool false) u := fun u => by simp [binOp, Op.stringOp, k1, k2]
            clear hjp hx hx0 hxm hxb h0
            go_wp2_with fail
            go_quiet (fail)
            go_wp2_with fail
            go_roundw
            case rel => exact ⟨j + 1, by omega, by go_num, hid (kept_drewN HKr.out _)⟩
            case measure => simp [intOf]; omega
          · have h0z : decide ((0 : Int) < (j : Int)) = false := by simp; omega
            have h0n : decide (0 < j) = false := by simp; omega
            clear hx hxm hxb h0
            go_wp2_with fail
            go_quiet (fail)
            go_wp2_with fail
            go_roundw
            case rel => exact ⟨j + 1, by omega, by go_num, hid (kept_drewN HKr.out _)⟩
            case measure => simp [intOf]; omega
        · have hjz : ¬ (j : Int) < (q : Int) := by omega
          go_wp2_with fail
          go_ret
          exact ⟨rfl, kept_trans HK4.out HKr.out⟩
end Go.Proofs.Ytahgplfkgijecaa
