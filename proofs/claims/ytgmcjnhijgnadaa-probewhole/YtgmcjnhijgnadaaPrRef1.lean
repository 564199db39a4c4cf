/- The reference's probe by value; the contracts of its Waiting, Nodes and two. -/
import Derived.Test.YtgmcjnhijgnadaaPrRows
namespace Go.Proofs.Ytgmcjnhijgnadaa
open Go.ChangeShapes Go.WideShapes Go.ChangeAt Go.RowKit
set_option linter.unusedVariables false
set_option linter.unusedSimpArgs false
set_option maxRecDepth 100000

def encW (x : Wt) : List Value := [.int .u8 x.node, .int .i64 (x.since : Int)]
theorem encW_ok : Enc encW 2 := ⟨by decide, fun _ => rfl, fun x v hv => by
  simp only [encW, List.mem_cons, List.not_mem_nil, or_false] at hv
  rcases hv with rfl | rfl <;> rfl⟩
theorem infoW : (Try.prog.info? 82).map (fun i => (i.zero, i.size, i.bytes)) = some (some (.agg #[.int .u8 0, .int .i64 0]), 2, 16) := by kernel_rfl
theorem tyW : TyG Try.prog 28 82 2 16 := by
  obtain ⟨i0, hi, hz0, hz1, hz2⟩ := info_parts infoW
  exact ⟨Try.underlying28, i0, _, hi, hz0, hz1, hz2, rfl⟩
theorem zeroW (w : World) : (zeroValue 82).run Try.prog w = .ok (.agg #[.int .u8 0, .int .i64 0]) w := by kernel_rfl
theorem zeroP (w : World) : (zeroValue 30).run Try.prog w = .ok (.agg #[.int .u8 0, .int .i64 0, .slice none 0 0, .int .i64 0, .slice none 0 0, .int .i64 0]) w := by kernel_rfl
theorem rg_W {w : World} {g o n cap : Nat} {xs : List Wt} (h : Rg encW 2 w (.slice (some ⟨g, o, none⟩) n cap) xs) {i : Nat} {x : Wt} (hx : xs[i]? = some x) : w.cell? ⟨g, o + i * 2, none⟩ = some (.int .u8 x.node) ∧ w.cell? ⟨g, o + i * 2 + 1, none⟩ = some (.int .i64 (x.since : Int)) := ⟨rg_all h hx 0 _ rfl, rg_all h hx 1 _ rfl⟩
/- The cells of one. -/
def cellsP (p : Pb) (rv wv : Value) : Array Value := #[.int .u8 p.self, .int .i64 (p.n : Int), rv, .int .i64 (p.place : Int), wv, .int .i64 (p.ticks : Int)]
structure Rp (w : World) (p : Pb) (rv wv : Value) : Prop where
  r : Rg encU 1 w rv p.row
  w : Rg encW 2 w wv p.waits
theorem rp_kept {w w' : World} {p : Pb} {rv wv : Value} (h : Rp w p rv wv) (k : Kept w w') : Rp w' p rv wv := ⟨rg_kept encU_ok h.r k, rg_kept encW_ok h.w k⟩
theorem at_cells6 {w : World} {X T : Nat} {a0 a1 a2 a3 a4 a5 : Value} (h : At w X #[a0, a1, a2, a3, a4, a5] T) : w.cell? ⟨X, 0, none⟩ = some a0 ∧ w.cell? ⟨X, 1, none⟩ = some a1 ∧ w.cell? ⟨X, 2, none⟩ = some a2 ∧ w.cell? ⟨X, 3, none⟩ = some a3 ∧ w.cell? ⟨X, 4, none⟩ = some a4 ∧ w.cell? ⟨X, 5, none⟩ = some a5 := ⟨at_cell h 0, at_cell h 1, at_cell h 2, at_cell h 3, at_cell h 4, at_cell h 5⟩
theorem isW_next {ws : List Wt} {k : Nat} {y : Wt} (h : ws[k]? = some y) (x : Int) : isW (ws.take (k + 1)) x = (isW (ws.take k) x || decide (x = y.node)) := by
  unfold isW
  rw [take_next h, List.map_append]
  simp
theorem isW_in {ws : List Wt} {k : Nat} {y : Wt} (h : ws[k]? = some y) {x : Int} (e : y.node = x) : isW ws x = true := by
  unfold isW
  rw [decide_eq_true_eq, ← e]
  exact List.mem_map.2 ⟨y, List.mem_of_getElem? h, rfl⟩
set_option maxHeartbeats 3200000 in
theorem rwaiting_any (p : Pb) (rv wv : Value) (x : Int) (w : World) (h : Rp w p rv wv) : Calls Try.prog 25 #[.agg (cellsP p rv wv), .int .u8 x] w fun e w' => e = .returned (.bool (isW p.waits x)) ∧ Kept w w' := by
  unfold cellsP
  obtain ⟨ra, rc, rfl, -, -, -, -⟩ := h.r
  obtain ⟨a, cap, rfl, h1, h2, -, -⟩ := h.w
  unfold maxLen at h2
  have k0 := kept_alloc (kept_refl w) (.cells #[.int .u8 p.self, .int .i64 (p.n : Int), .slice ra p.row.length rc, .int .i64 (p.place : Int), .slice a p.waits.length cap, .int .i64 (p.ticks : Int)] 30)
  have HA := hid (at_new w #[.int .u8 p.self, .int .i64 (p.n : Int), .slice ra p.row.length rc, .int .i64 (p.place : Int), .slice a p.waits.length cap, .int .i64 (p.ticks : Int)] 30)
  have HR := hid (rg_kept encW_ok h.w k0)
  have HK := hid k0
  obtain ⟨w0, hw0⟩ : ∃ u, w.alloc (.cells #[.int .u8 p.self, .int .i64 (p.n : Int), .slice ra p.row.length rc, .int .i64 (p.place : Int), .slice a p.waits.length cap, .int .i64 (p.ticks : Int)] 30) = u := ⟨_, rfl⟩
  obtain ⟨P, hP⟩ : ∃ u, w.heap.size = u := ⟨_, rfl⟩
  rw [hw0] at HR HK
  rw [hw0, hP] at HA
  obtain ⟨q0, q1, q2, q3, q4, q5⟩ := at_cells6 HA.out
  have HG : Hid (∀ k, k < p.waits.length → ∃ y, p.waits[k]? = some y) := hid (fun k hk => ⟨p.waits[k], List.getElem?_eq_getElem hk⟩)
  have HPp : Hid (0 < p.waits.length → ∃ g o, a = some ⟨g, o, none⟩) := hid (fun hp => by
    obtain ⟨g, o, c, e⟩ := rg_pos HR.out hp
    injection e with e1
    exact ⟨g, o, e1⟩)
  have HT : Hid (p.waits.take p.waits.length = p.waits) := hid List.take_length
  generalize p.waits = ws at *
  generalize hm : ws.length = m at *
  clear hm k0 h
  go_enter Try.func25, Try.ntmps25
  go_wp2_with fail
  clear hw0 hP
  go_loopw [9] (fun j wr => ∃ k : Nat, k ≤ m ∧ j = .int .i64 k ∧ Hid (isW (ws.take k) x = false) ∧ wr = w0) (fun j _ => m - (intOf j).toNat)
  case atStart => exact ⟨0, Nat.zero_le _, rfl, hid (by simp [isW]), rfl⟩
  case round =>
    obtain ⟨k, hk, rfl, HN, rfl⟩ := hrel
    by_cases hlt : k < m
    · obtain ⟨y, hy⟩ := HG.out k hlt
      obtain ⟨g, o, rfl⟩ := HPp.out (by omega)
      obtain ⟨c0, c1⟩ := rg_W HR.out hy
      by_cases e : y.node = x
      · have hb : (y.node == x) = true := by simpa using e
        have HE := hid (isW_in hy e)
        clear hy e
        go_wp2_with fail
        go_ret
        exact ⟨says_bool HE.out.symm, HK.out⟩
      · have hb : (y.node == x) = false := by simpa using e
        have HNx : Hid (isW (ws.take (k + 1)) x = false) := hid (by
          rw [isW_next hy, HN.out]
          have : ¬ x = y.node := fun h => e h.symm
          simp [this])
        clear hy e
        go_wp2_with fail
        go_roundw
        case rel => exact ⟨k + 1, by omega, by go_num, HNx, by simp⟩
        case measure => simp [intOf]; omega
    · have he : k = m := by omega
      subst he
      rw [HT.out] at HN
      go_wp2_with fail
      go_ret
      exact ⟨says_bool HN.out.symm, HK.out⟩
theorem builtU (w : World) : Og encU 1 5 (w.alloc (.cells #[] 5)) w.heap.size (.slice (some ⟨w.heap.size, 0, none⟩) 0 0) [] := og_built encU_ok 5 w _ (Nat.le_refl _) [] (by decide)
theorem builtW (w : World) : Og encW 2 82 (w.alloc (.cells #[] 82)) w.heap.size (.slice (some ⟨w.heap.size, 0, none⟩) 0 0) [] := og_built encW_ok 82 w _ (Nat.le_refl _) [] (by decide)
theorem map_next {ws : List Wt} {k : Nat} {y : Wt} (h : ws[k]? = some y) : (ws.take (k + 1)).map Wt.node = (ws.take k).map Wt.node ++ [y.node] := by rw [take_next h]; simp
set_option maxHeartbeats 3200000 in
theorem rnodes_any (p : Pb) (hl : p.waits.length ≤ 1000) (rv wv : Value) (w : World) (h : Rp w p rv wv) : Calls Try.prog 18 #[.agg (cellsP p rv wv)] w (GRowN encU 1 5 (nodW p) w) := by
  unfold cellsP
  obtain ⟨ra, rc, rfl, -, -, -, -⟩ := h.r
  obtain ⟨a, cap, rfl, -, -, -, -⟩ := h.w
  have k0 := kept_alloc (kept_refl w) (.cells #[.int .u8 p.self, .int .i64 (p.n : Int), .slice ra p.row.length rc, .int .i64 (p.place : Int), .slice a p.waits.length cap, .int .i64 (p.ticks : Int)] 30)
  have HA := hid (at_new w #[.int .u8 p.self, .int .i64 (p.n : Int), .slice ra p.row.length rc, .int .i64 (p.place : Int), .slice a p.waits.length cap, .int .i64 (p.ticks : Int)] 30)
  have HR := hid (rg_kept encW_ok h.w k0)
  have HK := hid k0
  obtain ⟨w0, hw0⟩ : ∃ u, w.alloc (.cells #[.int .u8 p.self, .int .i64 (p.n : Int), .slice ra p.row.length rc, .int .i64 (p.place : Int), .slice a p.waits.length cap, .int .i64 (p.ticks : Int)] 30) = u := ⟨_, rfl⟩
  obtain ⟨P, hP⟩ : ∃ u, w.heap.size = u := ⟨_, rfl⟩
  rw [hw0] at HR HK
  rw [hw0, hP] at HA
  have HO0 := hid (builtU w0)
  have HK1 := hid (kept_alloc (kept_refl w0) (.cells #[] 5))
  obtain ⟨q0, q1, q2, q3, q4, q5⟩ := at_cells6 (at_kept HA.out HK1.out)
  have HG : Hid (∀ k, k < p.waits.length → ∃ y, p.waits[k]? = some y) := hid (fun k hk => ⟨p.waits[k], List.getElem?_eq_getElem hk⟩)
  have HPp : Hid (0 < p.waits.length → ∃ g o, a = some ⟨g, o, none⟩) := hid (fun hp => by
    obtain ⟨g, o, c, e⟩ := rg_pos HR.out hp
    injection e with e1
    exact ⟨g, o, e1⟩)
  have HT : Hid (p.waits.take p.waits.length = p.waits) := hid List.take_length
  have HEnd : Hid (∀ v u, Og encU 1 5 u w0.heap.size v (p.waits.map Wt.node) → v ≠ .slice none 0 0 → Kept w0 u → GRowN encU 1 5 (nodW p) w (.returned v) u) := hid (fun v u h1 h2 h3 => ⟨v, rfl, og_low h1 HK.out.2, h2, kept_trans HK.out h3⟩)
  generalize p.waits = ws at *
  generalize hm : ws.length = m at *
  have HLt : Hid (∀ k, k ≤ m → ((ws.take k).map Wt.node).length ≤ 1000) := hid (fun k hk => by simp; omega)
  clear hm k0 h
  go_enter Try.func18, Try.ntmps18
  go_wp2_with fail
  clear hw0 hP q0 q1 q2 q3 q4 q5
  generalize w0.alloc (.cells #[] 5) = w1 at *
  generalize hB : w0.heap.size = B at *
  have HB := hid hB
  clear hB
  go_loopw [3, 9] (fun ks j wr => ∃ k : Nat, k ≤ m ∧ j = .int .i64 k ∧ Hid (Og encU 1 5 wr B ks ((ws.take k).map Wt.node)) ∧ Hid (ks ≠ .slice none 0 0) ∧ Hid (Kept w0 wr)) (fun _ j _ => m - (intOf j).toNat)
  case atStart => exact ⟨0, Nat.zero_le _, rfl, HO0, hid (by simp), HK1⟩
  case round =>
    obtain ⟨k, hk, rfl, HO, HNn, HKr⟩ := hrel
    clear HO0 HK1
    by_cases hlt : k < m
    · obtain ⟨y, hy⟩ := HG.out k hlt
      obtain ⟨g, o, rfl⟩ := HPp.out (by omega)
      obtain ⟨c0, c1⟩ := rg_W (rg_kept encW_ok HR.out HKr.out) hy
      obtain ⟨q0, q1, q2, q3, q4, q5⟩ := at_cells6 (at_kept HA.out HKr.out)
      have HNx := hid (map_next hy)
      have HKa := hid (kept_alloc HKr.out (.cells #[.int .u8 y.node] 5))
      have HOa := hid (og_stays HO.out (kept_alloc (kept_refl wr) (.cells #[.int .u8 y.node] 5)))
      have HAl := hid (rg_alone encU_ok (y := y.node) (at_new wr #[.int .u8 y.node] 5))
      have HBw : Hid (B ≤ (wr.alloc (.cells #[.int .u8 y.node] 5)).heap.size) := hid (by have := HKa.out.2; have := HB.out; omega)
      clear hy
      go_wp2_with (at_builtin; go_must (refine wpList_gapp rfl (.tmp 12) (.tmp 19) rfl encU_ok tyU (by decide) B _ _ _ _ rfl HOa.out rfl HAl.out (by have := HLt.out k hk; simp at this ⊢; omega) HBw.out ?_; intro v3 w4 hown3 hgrow3 hnil3))
      have HO3 : Hid (Og encU 1 5 w4 B v3 ((ws.take (k + 1)).map Wt.node)) := hid (by rw [HNx.out]; exact hown3)
      have HK3 := hid (kept_gr HKa.out hgrow3 (fun j hj => by have := og_lt HOa.out hj; have := HB.out; omega))
      go_roundw
      case rel => exact ⟨k + 1, by omega, by go_num, HO3, hid (hnil3 HNn.out), HK3⟩
      case measure => simp [intOf]; omega
    · have he : k = m := by omega
      subst he
      rw [HT.out] at HO
      go_wp2_with fail
      go_ret
      exact HEnd.out _ _ HO.out HNn.out HKr.out
end Go.Proofs.Ytgmcjnhijgnadaa
