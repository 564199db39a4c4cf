/- The contract of the statements' own cut: the first answers that are small, with one key, a hundred and one at most, as a row of one's own. -/
import Derived.Test.YtjmldnbepajnoaaRAkFixed
import Derived.Deep.CutBlock
import Derived.Deep.DeepCutAuto
namespace Go.Proofs.YtjmldnbepajnoaaR
open Go.ChangeShapes Go.WideShapes Go.ChangeAt Go.RowKit
set_option linter.unusedVariables false
set_option linter.unusedSimpArgs false
set_option maxRecDepth 100000

def zeroOp : Opn := ⟨0, zeroRp⟩
theorem infoO : (Try.prog.info? 36).map (fun i => (i.zero, i.size, i.bytes)) = some (some (.agg (encO zeroOp).toArray), 11, 80) := by kernel_rfl
theorem tyO : TyG Try.prog 23 36 11 80 := by
  obtain ⟨i0, hi, hz0, hz1, hz2⟩ := info_parts infoO
  exact ⟨Try.underlying23, i0, _, hi, hz0, hz1, hz2, rfl⟩
theorem zeroOv (w : World) : (zeroValue 36).run Try.prog w = .ok (.agg #[.int .u8 0, .bool false, .bool false, .string ⟨#[]⟩, .int .u64 0, .int .u32 0, .int .u8 0, .int .u8 0, .int .u32 0, .int .u64 0, .string ⟨#[]⟩]) w := by kernel_rfl
def keyO (o : Opn) (key : ByteArray) : Opn := ⟨o.node, ⟨o.x.has, o.x.past, ⟨key, o.x.r.s, o.x.r.kind, o.x.r.flags, o.x.r.exp, o.x.r.body⟩⟩⟩
def Cutt (key : ByteArray) (L : List Opn) : Prop := ∀ o ∈ L, okU o.node ∧ RpOk o.x ∧ o.x.r.key = key
def CutC (key : ByteArray) (w : World) (e : Ending) (w' : World) : Prop := ∃ r L, e = .returned r ∧ Og encO 11 36 w' w.heap.size r L ∧ L.length ≤ 101 ∧ Cutt key L ∧ Kept w w'
theorem cells11 {w : World} {X T : Nat} {a0 a1 a2 a3 a4 a5 a6 a7 a8 a9 a10 : Value} (h : At w X #[a0, a1, a2, a3, a4, a5, a6, a7, a8, a9, a10] T) : w.cell? ⟨X, 0, none⟩ = some a0 ∧ w.cell? ⟨X, 1, none⟩ = some a1 ∧ w.cell? ⟨X, 2, none⟩ = some a2 ∧ w.cell? ⟨X, 3, none⟩ = some a3 ∧ w.cell? ⟨X, 4, none⟩ = some a4 ∧ w.cell? ⟨X, 5, none⟩ = some a5 ∧ w.cell? ⟨X, 6, none⟩ = some a6 ∧ w.cell? ⟨X, 7, none⟩ = some a7 ∧ w.cell? ⟨X, 8, none⟩ = some a8 ∧ w.cell? ⟨X, 9, none⟩ = some a9 ∧ w.cell? ⟨X, 10, none⟩ = some a10 :=
  ⟨at_cell h 0, at_cell h 1, at_cell h 2, at_cell h 3, at_cell h 4, at_cell h 5, at_cell h 6, at_cell h 7, at_cell h 8, at_cell h 9, at_cell h 10⟩
theorem keyO_ok {o : Opn} {key : ByteArray} (h : OpOk o) (hk : key.size ≤ 1000) (hb : o.x.r.body.size ≤ 3000) : okU (keyO o key).node ∧ RpOk (keyO o key).x ∧ (keyO o key).x.r.key = key := by
  obtain ⟨h1, h2⟩ := h
  refine ⟨h1, ⟨?_, hk, hb⟩, rfl⟩
  obtain ⟨g1, g2, g3, g4, g5, g6⟩ := h2
  exact ⟨by show key.size ≤ maxLen; unfold maxLen; omega, g2, g3, g4, g5, g6⟩
set_option maxHeartbeats 6400000 in
theorem cut_any (l : List Opn) (hl : ∀ o ∈ l, OpOk o) (key : ByteArray) (hk : key.size ≤ 1000) (v : Value) (w : World) (h : Rg encO 11 w v l) : Calls Try.prog 7 #[v, .string key] w (CutC key w) := by
  have HR := hid h
  have HKe := hid hk
  obtain ⟨a, cap, rfl, hc1, hc2, -, -⟩ := h
  unfold maxLen at hc2
  have HG : Hid (∀ i : Nat, i < l.length → ∃ y, l[i]? = some y ∧ OpOk y) := hid (fun i hi => ⟨l[i], List.getElem?_eq_getElem hi, hl _ (List.getElem_mem hi)⟩)
  have HP : Hid (0 < l.length → ∃ g o, a = some ⟨g, o, none⟩) := hid (fun hp => by
    obtain ⟨g, o, c, e⟩ := rg_pos HR.out hp
    injection e with e1
    exact ⟨g, o, e1⟩)
  have hz := zeroOv
  generalize hm : l.length = m at *
  clear hm hl hk
  go_enter Try.func7, Try.ntmps7
  go_wp2_with fail
  go_loopw [5, 10] (fun rv iv wr => ∃ (i : Nat) (L : List Opn), i ≤ m ∧ i ≤ 101 ∧ iv = .int .i64 (i : Int) ∧ Hid (Og encO 11 36 wr w.heap.size rv L) ∧ Hid (L.length = i ∧ Cutt key L) ∧ Hid (Kept w wr)) (fun _ iv _ => m - (intOf iv).toNat)
  case atStart => exact ⟨0, [], by omega, by omega, rfl, hid (og_nil _ _ _ _ _), hid ⟨rfl, fun o ho => by simp at ho⟩, hid (kept_refl w)⟩
  case round =>
    obtain ⟨i, L, hi, hi2, rfl, HO, HL, HK⟩ := hrel
    by_cases hlt : i < m
    · have hltz : (i : Int) < (m : Int) := by omega
      obtain ⟨y, hy, hyk⟩ := HG.out i hlt
      obtain ⟨gg, oo, rfl⟩ := HP.out (by omega)
      obtain ⟨c0, c1, c2, c3, c4, c5, c6, c7, c8, c9, c10⟩ := rg_O (rg_kept encO_ok HR.out HK.out) hy
      have HYk := hid hyk
      have HZ := hid (at_new wr #[.int .u8 y.node, .bool y.x.has, .bool y.x.past, .string y.x.r.key, .int .u64 y.x.r.s.p, .int .u32 y.x.r.s.l, .int .u8 y.x.r.s.n, .int .u8 y.x.r.kind, .int .u32 y.x.r.flags, .int .u64 y.x.r.exp, .string y.x.r.body] 36)
      have HKa := hid (kept_alloc (kept_refl wr) (.cells #[.int .u8 y.node, .bool y.x.has, .bool y.x.past, .string y.x.r.key, .int .u64 y.x.r.s.p, .int .u32 y.x.r.s.l, .int .u8 y.x.r.s.n, .int .u8 y.x.r.kind, .int .u32 y.x.r.flags, .int .u64 y.x.r.exp, .string y.x.r.body] 36))
      obtain ⟨p0, p1, p2, p3, p4, p5, p6, p7, p8, p9, p10⟩ := cells11 HZ.out
      clear hy hyk
      by_cases h1 : 100 < i
      · have d1 : (100 : Int) < (i : Int) := by omega
        go_wp2_with fail
        go_ret
        exact ⟨_, L, rfl, og_stays HO.out HKa.out, by have := HL.out.1; omega, HL.out.2, kept_trans HK.out HKa.out⟩
      · have d1 : decide ((100 : Int) < (i : Int)) = false := by simp; omega
        have e1 : ¬ (100 : Int) < (i : Int) := by omega
        by_cases h2 : 1000 < y.x.r.key.size
        · have d2 : (1000 : Int) < (y.x.r.key.size : Int) := by omega
          go_wp2_with fail
          go_ret
          exact ⟨_, L, rfl, og_stays HO.out HKa.out, by have := HL.out.1; omega, HL.out.2, kept_trans HK.out HKa.out⟩
        · have d2 : decide ((1000 : Int) < (y.x.r.key.size : Int)) = false := by simp; omega
          have e2 : ¬ (1000 : Int) < (y.x.r.key.size : Int) := by omega
          by_cases h3 : 3000 < y.x.r.body.size
          · have d3 : (3000 : Int) < (y.x.r.body.size : Int) := by omega
            go_wp2_with fail
            go_ret
            exact ⟨_, L, rfl, og_stays HO.out HKa.out, by have := HL.out.1; omega, HL.out.2, kept_trans HK.out HKa.out⟩
          · have d3 : decide ((3000 : Int) < (y.x.r.body.size : Int)) = false := by simp; omega
            have e3 : ¬ (3000 : Int) < (y.x.r.body.size : Int) := by omega
            have HNew := hid (keyO_ok HYk.out HKe.out (by omega : y.x.r.body.size ≤ 3000))
            go_upto_region 6 with fail
            obtain ⟨wa, hwa⟩ : ∃ u, wr.alloc (.cells #[.int .u8 y.node, .bool y.x.has, .bool y.x.past, .string y.x.r.key, .int .u64 y.x.r.s.p, .int .u32 y.x.r.s.l, .int .u8 y.x.r.s.n, .int .u8 y.x.r.kind, .int .u32 y.x.r.flags, .int .u64 y.x.r.exp, .string y.x.r.body] 36) = u := ⟨_, rfl⟩
            obtain ⟨Y, hY⟩ : ∃ u, wr.heap.size = u := ⟨_, rfl⟩
            rw [hwa] at HKa
            rw [hwa, hY] at HZ
            simp only [hwa, hY] at p0 p1 p2 p3 p4 p5 p6 p7 p8 p9 p10 ⊢
            have hfz : wa.frozen? ⟨Y, 3, none⟩ = false := at_frozen HZ.out 3
            have hA2 : At (wa.setCell ⟨Y, 3, none⟩ (.string key)) Y #[.int .u8 y.node, .bool y.x.has, .bool y.x.past, .string key, .int .u64 y.x.r.s.p, .int .u32 y.x.r.s.l, .int .u8 y.x.r.s.n, .int .u8 y.x.r.kind, .int .u32 y.x.r.flags, .int .u64 y.x.r.exp, .string y.x.r.body] 36 := at_set HZ.out 3 (.string key)
            have hKw := kept_trans HK.out HKa.out
            have hYw : w.heap.size ≤ Y := by have := HK.out.2; omega
            have hK2 := kept_set hKw hYw 3 (.string key)
            have hO2 : Og encO 11 36 (wa.setCell ⟨Y, 3, none⟩ (.string key)) w.heap.size u5 L := og_block (og_stays HO.out HKa.out) (fun g cur hg ha => Below.heap_setCell _ _ _ _ (by
              show g ≠ Y
              have h9 := (World.ownsRow.lt HO.out g hg).2
              omega))
            obtain ⟨wb, hwb⟩ : ∃ u, wa.setCell ⟨Y, 3, none⟩ (.string key) = u := ⟨_, rfl⟩
            rw [hwb] at hA2 hK2 hO2
            have hkl := kept_alloc (kept_refl wb) (.cells #[.int .u8 y.node, .bool y.x.has, .bool y.x.past, .string key, .int .u64 y.x.r.s.p, .int .u32 y.x.r.s.l, .int .u8 y.x.r.s.n, .int .u8 y.x.r.kind, .int .u32 y.x.r.flags, .int .u64 y.x.r.exp, .string y.x.r.body] 36)
            have HKl := hid (kept_trans hK2 hkl)
            have HOl := hid (og_stays hO2 hkl)
            have HAl := hid (rg_alone encO_ok (y := keyO y key) (at_new wb #[.int .u8 y.node, .bool y.x.has, .bool y.x.past, .string key, .int .u64 y.x.r.s.p, .int .u32 y.x.r.s.l, .int .u8 y.x.r.s.n, .int .u8 y.x.r.kind, .int .u32 y.x.r.flags, .int .u64 y.x.r.exp, .string y.x.r.body] 36))
            obtain ⟨q0, q1, q2, q3, q4, q5, q6, q7, q8, q9, q10⟩ := cells11 hA2
            clear hA2 hKw hYw hK2 hO2 hkl hwa hY c0 c1 c2 c3 c4 c5 c6 c7 c8 c9 c10 HZ HKa
            have hl101 : L.length ≤ 101 := by have := HL.out.1; omega
            go_wp2_with (at_builtin; refine wpList_gapp rfl (.tmp 37) (.tmp 39) rfl encO_ok tyO (by decide) w.heap.size _ _ _ [keyO y key] rfl HOl.out rfl HAl.out (by simp; omega) HKl.out.2 ?_; intro v7 w7 hown7 hgrow7 hnil7; have HO7 := hid hown7; have HK7 := hid (kept_gr HKl.out hgrow7 (fun q hq => og_lt HOl.out hq)); clear hown7 hgrow7 hnil7)
            go_roundw
            case rel => exact ⟨i + 1, _, by omega, by omega, by go_num, HO7, hid ⟨by rw [List.length_append, HL.out.1]; rfl, fun o ho => by
              rcases List.mem_append.1 ho with h | h
              · exact HL.out.2 o h
              · simp at h
                subst h
                exact HNew.out⟩, HK7⟩
            case measure => simp [intOf]; omega
    · have hltz : ¬ (i : Int) < (m : Int) := by omega
      go_wp2_with fail
      go_ret
      exact ⟨_, L, rfl, HO.out, by have := HL.out.1; omega, HL.out.2, HK.out⟩
end Go.Proofs.YtjmldnbepajnoaaR
