/- Rows of news, of pieces, of calls and of truths in memory; the contracts of the references' SameNews and Add. Rows have at most 4096 members. -/
import Derived.Test.YtalcbahnhiibkaaTalkMath
import Derived.Test.YtalcbahnhiibkaaGCopy
import Derived.Test.YtalcbahnhiibkaaRows
import Derived.BigQuiet
import Derived.Deep.DeepMust
import Derived.Deep.Upon
namespace Go.Proofs.Ytalcbahnhiibkaa
open Go.ChangeShapes Go.WideShapes Go.ChangeAt Go.RowKit
set_option linter.unusedVariables false
set_option linter.unusedSimpArgs false
set_option maxRecDepth 100000

theorem kept_drewN {W w : World} (h : Kept W w) (n : Nat) : Kept W (w.drewN n) := h
theorem says_bool {x y : Bool} (e : x = y) : Ending.returned (.bool x) = Ending.returned (.bool y) := congrArg (fun z => Ending.returned (.bool z)) e
structure Opn where
  take : Bool
  x : Nw
def encN (x : Nw) : List Value := [.int .u8 x.node, .int .u8 x.st, .int .u32 x.inc]
def encP (p : Pc) : List Value := [.int .u8 p.x.node, .int .u8 p.x.st, .int .u32 p.x.inc, .int .i64 (p.told : Int)]
def encO (o : Opn) : List Value := [.bool o.take, .int .u8 o.x.node, .int .u8 o.x.st, .int .u32 o.x.inc]
def encB (b : Bool) : List Value := [.bool b]
theorem encN_ok : Enc encN 3 := ⟨by decide, fun _ => rfl, fun x v hv => by
  simp only [encN, List.mem_cons, List.not_mem_nil, or_false] at hv
  rcases hv with rfl | rfl | rfl <;> rfl⟩
theorem encP_ok : Enc encP 4 := ⟨by decide, fun _ => rfl, fun x v hv => by
  simp only [encP, List.mem_cons, List.not_mem_nil, or_false] at hv
  rcases hv with rfl | rfl | rfl | rfl <;> rfl⟩
theorem encO_ok : Enc encO 4 := ⟨by decide, fun _ => rfl, fun x v hv => by
  simp only [encO, List.mem_cons, List.not_mem_nil, or_false] at hv
  rcases hv with rfl | rfl | rfl | rfl <;> rfl⟩
theorem encB_ok : Enc encB 1 := ⟨by decide, fun _ => rfl, fun x v hv => by
  simp only [encB, List.mem_cons, List.not_mem_nil, or_false] at hv
  rcases hv with rfl
  rfl⟩
theorem infoN : (Try.prog.info? 33).map (fun i => (i.zero, i.size, i.bytes)) = some (some (.agg #[.int .u8 0, .int .u8 0, .int .u32 0]), 3, 12) := by kernel_rfl
theorem infoP : (Try.prog.info? 58).map (fun i => (i.zero, i.size, i.bytes)) = some (some (.agg #[.int .u8 0, .int .u8 0, .int .u32 0, .int .i64 0]), 4, 24) := by kernel_rfl
theorem infoB : (Try.prog.info? 4).map (fun i => (i.zero, i.size, i.bytes)) = some (some (.bool false), 1, 1) := by kernel_rfl
theorem tyN : TyG Try.prog 36 33 3 12 := by
  obtain ⟨i0, hi, hz0, hz1, hz2⟩ := info_parts infoN
  exact ⟨Try.underlying36, i0, _, hi, hz0, hz1, hz2, rfl⟩
theorem tyP : TyG Try.prog 28 58 4 24 := by
  obtain ⟨i0, hi, hz0, hz1, hz2⟩ := info_parts infoP
  exact ⟨Try.underlying28, i0, _, hi, hz0, hz1, hz2, rfl⟩
theorem zeroN (w : World) : (zeroValue 33).run Try.prog w = .ok (.agg #[.int .u8 0, .int .u8 0, .int .u32 0]) w := by kernel_rfl
theorem zeroP (w : World) : (zeroValue 58).run Try.prog w = .ok (.agg #[.int .u8 0, .int .u8 0, .int .u32 0, .int .i64 0]) w := by kernel_rfl
theorem zeroO (w : World) : (zeroValue 35).run Try.prog w = .ok (.agg #[.bool false, .int .u8 0, .int .u8 0, .int .u32 0]) w := by kernel_rfl
theorem rg_all {α : Type} {enc : α → List Value} {c : Nat} {w : World} {g o n cap : Nat} {xs : List α} (h : Rg enc c w (.slice (some ⟨g, o, none⟩) n cap) xs) {i : Nat} {x : α} (hx : xs[i]? = some x) : ∀ j u, (enc x)[j]? = some u → w.cell? ⟨g, o + i * c + j, none⟩ = some u := by
  obtain ⟨a, cc, e, _, _, _, h⟩ := h
  injection e with e1 e2 e3
  have hi := (List.getElem?_eq_some_iff.1 hx).1
  obtain ⟨g', o', e4, hc⟩ := h (by omega)
  rw [← e1] at e4
  injection e4 with e4
  injection e4 with e4 e5
  subst e4 e5
  exact fun j u hu => hc i x j u hx hu
theorem rg_N {w : World} {g o n cap : Nat} {xs : List Nw} (h : Rg encN 3 w (.slice (some ⟨g, o, none⟩) n cap) xs) {i : Nat} {x : Nw} (hx : xs[i]? = some x) : w.cell? ⟨g, o + i * 3, none⟩ = some (.int .u8 x.node) ∧ w.cell? ⟨g, o + i * 3 + 1, none⟩ = some (.int .u8 x.st) ∧ w.cell? ⟨g, o + i * 3 + 2, none⟩ = some (.int .u32 x.inc) :=
  ⟨rg_all h hx 0 _ rfl, rg_all h hx 1 _ rfl, rg_all h hx 2 _ rfl⟩
theorem rg_P {w : World} {g o n cap : Nat} {xs : List Pc} (h : Rg encP 4 w (.slice (some ⟨g, o, none⟩) n cap) xs) {i : Nat} {x : Pc} (hx : xs[i]? = some x) : w.cell? ⟨g, o + i * 4, none⟩ = some (.int .u8 x.x.node) ∧ w.cell? ⟨g, o + i * 4 + 1, none⟩ = some (.int .u8 x.x.st) ∧ w.cell? ⟨g, o + i * 4 + 2, none⟩ = some (.int .u32 x.x.inc) ∧ w.cell? ⟨g, o + i * 4 + 3, none⟩ = some (.int .i64 (x.told : Int)) :=
  ⟨rg_all h hx 0 _ rfl, rg_all h hx 1 _ rfl, rg_all h hx 2 _ rfl, rg_all h hx 3 _ rfl⟩
theorem rg_O {w : World} {g o n cap : Nat} {xs : List Opn} (h : Rg encO 4 w (.slice (some ⟨g, o, none⟩) n cap) xs) {i : Nat} {x : Opn} (hx : xs[i]? = some x) : w.cell? ⟨g, o + i * 4, none⟩ = some (.bool x.take) ∧ w.cell? ⟨g, o + i * 4 + 1, none⟩ = some (.int .u8 x.x.node) ∧ w.cell? ⟨g, o + i * 4 + 2, none⟩ = some (.int .u8 x.x.st) ∧ w.cell? ⟨g, o + i * 4 + 3, none⟩ = some (.int .u32 x.x.inc) :=
  ⟨rg_all h hx 0 _ rfl, rg_all h hx 1 _ rfl, rg_all h hx 2 _ rfl, rg_all h hx 3 _ rfl⟩
theorem rg_pos {α : Type} {enc : α → List Value} {c : Nat} {w : World} {v : Value} {xs : List α} (h : Rg enc c w v xs) (hp : 0 < xs.length) : ∃ g o cap, v = .slice (some ⟨g, o, none⟩) xs.length cap := by
  obtain ⟨a, cap, rfl, _, _, _, h⟩ := h
  obtain ⟨g, o, rfl, _⟩ := h hp
  exact ⟨g, o, cap, rfl⟩
theorem take_next {α : Type} {l : List α} {k : Nat} {y : α} (h : l[k]? = some y) : l.take (k + 1) = l.take k ++ [y] := by
  have hk := (List.getElem?_eq_some_iff.1 h).1
  have e2 := (List.getElem?_eq_some_iff.1 h).2
  rw [List.take_succ_eq_append_getElem hk, e2]
theorem eq_self_N (a : Nw) (w : World) : (Op.equalIn 10000 33 (.agg #[.int .u8 a.node, .int .u8 a.st, .int .u32 a.inc]) (.agg #[.int .u8 a.node, .int .u8 a.st, .int .u32 a.inc])).run Try.prog w = .ok true w := by
  go_simp
set_option maxHeartbeats 1600000 in
theorem sameN_any (l : List Nw) (hn : l.length ≤ 4096) (va vb : Value) (w : World) (ha : Rg encN 3 w va l) (hb : Rg encN 3 w vb l) : Calls Try.prog 10 #[va, vb] w fun e w' => e = .returned (.bool true) ∧ Kept w w' := by
  have HRa := hid ha
  have HRb := hid hb
  obtain ⟨a, ca, rfl, -, -, -, -⟩ := ha
  obtain ⟨b, cb, rfl, -, -, -, -⟩ := hb
  have HG : Hid (∀ k, k < l.length → ∃ y, l[k]? = some y) := hid (fun k hk => ⟨l[k], List.getElem?_eq_getElem hk⟩)
  have HPa : Hid (0 < l.length → ∃ g o, a = some ⟨g, o, none⟩) := hid (fun hp => by
    obtain ⟨g, o, c, e⟩ := rg_pos HRa.out hp
    injection e with e1
    exact ⟨g, o, e1⟩)
  have HPb : Hid (0 < l.length → ∃ g o, b = some ⟨g, o, none⟩) := hid (fun hp => by
    obtain ⟨g, o, c, e⟩ := rg_pos HRb.out hp
    injection e with e1
    exact ⟨g, o, e1⟩)
  generalize hm : l.length = m at *
  clear hm
  go_enter Try.func10, Try.ntmps10
  go_wp2_with fail
  go_loopw [13] (fun j wr => ∃ k : Nat, k ≤ m ∧ j = .int .i64 k ∧ Hid (Kept w wr)) (fun j _ => m - (intOf j).toNat)
  case atStart => exact ⟨0, Nat.zero_le _, rfl, hid (kept_refl w)⟩
  case round =>
    obtain ⟨k, hk, rfl, HK⟩ := hrel
    by_cases hlt : k < m
    · obtain ⟨x, hx⟩ := HG.out k hlt
      obtain ⟨g1, o1, rfl⟩ := HPa.out (by omega)
      obtain ⟨g2, o2, rfl⟩ := HPb.out (by omega)
      have e1 := rg_N (rg_kept encN_ok HRa.out HK.out) hx
      have e2 := rg_N (rg_kept encN_ok HRb.out HK.out) hx
      obtain ⟨a0, a1, a2⟩ := e1
      obtain ⟨b0, b1, b2⟩ := e2
      have heq := eq_self_N x
      clear hx
      go_wp2_with fail
      go_quiet (fail)
      go_wp2_with fail
      go_roundw
      case rel => exact ⟨k + 1, by omega, by go_num, hid (kept_drewN HK.out _)⟩
      case measure => simp [intOf]; omega
    · have he : k = m := by omega
      subst he
      go_wp2_with fail
      go_ret
      exact ⟨rfl, HK.out⟩
theorem at_cells3' {w : World} {X T : Nat} {a0 a1 a2 : Value} (h : At w X #[a0, a1, a2] T) : w.cell? ⟨X, 0, none⟩ = some a0 ∧ w.cell? ⟨X, 1, none⟩ = some a1 ∧ w.cell? ⟨X, 2, none⟩ = some a2 := ⟨at_cell h 0, at_cell h 1, at_cell h 2⟩
/- The reference's Add. -/
def wth (x : Nw) (q : Pc) : Bool := q.x.node != x.node
theorem filt_next {l : List Pc} {k : Nat} {y : Pc} (h : l[k]? = some y) (x : Nw) : (l.take (k + 1)).filter (wth x) = (l.take k).filter (wth x) ++ (if wth x y then [y] else []) := by
  rw [take_next h, List.filter_append]
  congr 1
  cases e : wth x y <;> simp [e]
set_option maxHeartbeats 3200000 in
theorem radd_any (l : List Pc) (hl : l.length ≤ 1000) (x : Nw) (v : Value) (w : World) (h : Rg encP 4 w v l) : Calls Try.prog 13 #[v, .agg #[.int .u8 x.node, .int .u8 x.st, .int .u32 x.inc]] w (GRowN encP 4 58 (addP l x) w) := by
  have HR := hid h
  obtain ⟨a, cap, rfl, -, -, -, -⟩ := h
  have HG : Hid (∀ k, k < l.length → ∃ y, l[k]? = some y) := hid (fun k hk => ⟨l[k], List.getElem?_eq_getElem hk⟩)
  have HP : Hid (0 < l.length → ∃ g o, a = some ⟨g, o, none⟩) := hid (fun hp => by
    obtain ⟨g, o, c, e⟩ := rg_pos HR.out hp
    injection e with e1
    exact ⟨g, o, e1⟩)
  have HT : Hid (l.take l.length = l) := hid List.take_length
  have HLt : Hid (∀ k, ((l.take k).filter (wth x)).length ≤ 1000) := hid (fun k => by
    have := List.length_filter_le (wth x) (l.take k)
    rw [List.length_take] at this
    omega)
  have HA0 := hid (at_new w #[.int .u8 x.node, .int .u8 x.st, .int .u32 x.inc] 33)
  have HK0 := hid (kept_alloc (kept_refl w) (.cells #[.int .u8 x.node, .int .u8 x.st, .int .u32 x.inc] 33))
  obtain ⟨w0, hw0⟩ : ∃ w0, w.alloc (.cells #[.int .u8 x.node, .int .u8 x.st, .int .u32 x.inc] 33) = w0 := ⟨_, rfl⟩
  obtain ⟨P, hP⟩ : ∃ P, w.heap.size = P := ⟨_, rfl⟩
  rw [hw0, hP] at HA0
  rw [hw0] at HK0
  have HO1 : Hid (Og encP 4 58 (w0.alloc (.cells #[.int .u8 x.node, .int .u8 x.st, .int .u32 x.inc, .int .i64 0] 58)) w0.heap.size (.slice (some ⟨w0.heap.size, 0, none⟩) 1 1) [⟨x, 0⟩]) := hid (og_built encP_ok 58 w0 _ (Nat.le_refl _) [⟨x, 0⟩] (by simp))
  have HK1 := hid (kept_alloc (kept_refl w0) (.cells #[.int .u8 x.node, .int .u8 x.st, .int .u32 x.inc, .int .i64 0] 58))
  obtain ⟨w1, hw1⟩ : ∃ w1, w0.alloc (.cells #[.int .u8 x.node, .int .u8 x.st, .int .u32 x.inc, .int .i64 0] 58) = w1 := ⟨_, rfl⟩
  obtain ⟨B, hB⟩ : ∃ B, w0.heap.size = B := ⟨_, rfl⟩
  rw [hw1, hB] at HO1
  rw [hw1] at HK1
  have HB : Hid (B ≤ w1.heap.size ∧ w.heap.size ≤ B ∧ w0.heap.size = B) := hid ⟨by have := HK1.out.2; omega, by have := HK0.out.2; omega, hB⟩
  have HKw := HK0
  have HA1 := HA0
  have HE : Hid (addP l x = ⟨x, 0⟩ :: l.filter (wth x)) := hid rfl
  obtain ⟨p0, p1, p2⟩ := at_cells3' HA0.out
  have hz := zeroP
  generalize hnn : l.length = n at *
  go_enter Try.func13, Try.ntmps13
  go_wp2_with fail
  clear hz hw0 hw1 hP hB p0 p1 p2 hnn HK0 HA0
  go_loopw [5, 12] (fun ks j wr => ∃ k : Nat, k ≤ n ∧ j = .int .i64 (k : Int) ∧ Hid (Og encP 4 58 wr B ks (⟨x, 0⟩ :: (l.take k).filter (wth x))) ∧ Hid (ks ≠ .slice none 0 0) ∧ Hid (Kept w0 wr)) (fun _ j _ => n - (intOf j).toNat)
  case atStart => exact ⟨0, Nat.zero_le _, rfl, HO1, hid (by simp), HK1⟩
  case round =>
    obtain ⟨k, hk, rfl, HO, HNn, HKr⟩ := hrel
    clear HO1 HK1
    by_cases hlt : k < n
    · obtain ⟨y, hy⟩ := HG.out k hlt
      obtain ⟨g, o, rfl⟩ := HP.out (by omega)
      have HNx := hid (filt_next hy x)
      have hR := rg_P (rg_kept encP_ok HR.out (kept_trans HKw.out HKr.out)) hy
      obtain ⟨c0, c1, c2, c3⟩ := hR
      obtain ⟨p0, p1, p2⟩ := at_cells3' (at_kept HA1.out HKr.out)
      have HY := hid hy
      clear hy
      cases hb : wth x y with
      | false =>
        rw [hb, if_neg (by simp), List.append_nil] at HNx
        have hne : (y.x.node != x.node) = false := hb
        clear hb
        go_wp2_with fail
        go_quiet (fail)
        go_wp2_with fail
        go_roundw
        case rel => exact ⟨k + 1, by omega, by go_num, hid (by rw [HNx.out]; exact og_stays HO.out (kept_drewN (kept_refl _) _)), HNn, hid (kept_drewN HKr.out _)⟩
        case measure => simp [intOf]; omega
      | true =>
        rw [hb, if_pos rfl] at HNx
        have hne : (y.x.node != x.node) = true := hb
        clear hb
        go_wp2_with fail
        go_quiet (fail)
        replace HO := hid (og_stays HO.out (kept_drewN (kept_refl wr) nq))
        replace HKr := hid (kept_drewN HKr.out nq)
        clear c0 c1 c2 c3 p0 p1 p2
        generalize wr.drewN nq = w3 at *
        have hR := rg_P (rg_kept encP_ok HR.out (kept_trans HKw.out HKr.out)) HY.out
        obtain ⟨c0, c1, c2, c3⟩ := hR
        have HKa := hid (kept_alloc HKr.out (.cells #[.int .u8 y.x.node, .int .u8 y.x.st, .int .u32 y.x.inc, .int .i64 (y.told : Int)] 58))
        have HOa := hid (og_stays HO.out (kept_alloc (kept_refl w3) (.cells #[.int .u8 y.x.node, .int .u8 y.x.st, .int .u32 y.x.inc, .int .i64 (y.told : Int)] 58)))
        have HAl := hid (rg_alone encP_ok (y := y) (at_new w3 #[.int .u8 y.x.node, .int .u8 y.x.st, .int .u32 y.x.inc, .int .i64 (y.told : Int)] 58))
        have HBw : Hid (B ≤ (w3.alloc (.cells #[.int .u8 y.x.node, .int .u8 y.x.st, .int .u32 y.x.inc, .int .i64 (y.told : Int)] 58)).heap.size) := hid (by have := HKa.out.2; have := HB.out; omega)
        go_wp2_with (at_builtin; go_must (refine wpList_gapp rfl (.tmp 24) (.tmp 29) rfl encP_ok tyP (by decide) B _ _ _ _ rfl HOa.out rfl HAl.out (by have := HLt.out k; simp; omega) HBw.out ?_; intro v3 w4 hown3 hgrow3 hnil3))
        have HO3 : Hid (Og encP 4 58 w4 B v3 (⟨x, 0⟩ :: (l.take (k + 1)).filter (wth x))) := hid (by rw [HNx.out]; exact hown3)
        have HK3 := hid (kept_gr HKa.out hgrow3 (fun j hj => by have := og_lt HOa.out hj; have := HB.out; omega))
        go_roundw
        case rel => exact ⟨k + 1, by omega, by go_num, HO3, hid (hnil3 HNn.out), HK3⟩
        case measure => simp [intOf]; omega
    · have he : k = n := by omega
      subst he
      rw [HT.out] at HO
      go_wp2_with fail
      go_ret
      exact ⟨_, rfl, by rw [HE.out]; exact og_low HO.out HB.out.2.1, HNn.out, kept_trans HKw.out HKr.out⟩
end Go.Proofs.Ytalcbahnhiibkaa
