/- The contract of the reference's Answer. -/
import Derived.Test.YtgmcjnhijgnadaaPrRef3
namespace Go.Proofs.Ytgmcjnhijgnadaa
open Go.ChangeShapes Go.WideShapes Go.ChangeAt Go.RowKit
set_option linter.unusedVariables false
set_option linter.unusedSimpArgs false
set_option maxRecDepth 100000

def set6 (w : World) (Z : Nat) (a0 a1 a2 a3 a4 a5 : Value) : World := (((((w.setCell ⟨Z, 0, none⟩ a0).setCell ⟨Z, 1, none⟩ a1).setCell ⟨Z, 2, none⟩ a2).setCell ⟨Z, 3, none⟩ a3).setCell ⟨Z, 4, none⟩ a4).setCell ⟨Z, 5, none⟩ a5
theorem at_set6 {w : World} {Z U : Nat} {b0 b1 b2 b3 b4 b5 : Value} (h : At w Z #[b0, b1, b2, b3, b4, b5] U) (a0 a1 a2 a3 a4 a5 : Value) : At (set6 w Z a0 a1 a2 a3 a4 a5) Z #[a0, a1, a2, a3, a4, a5] U := at_set (at_set (at_set (at_set (at_set (at_set h 0 a0) 1 a1) 2 a2) 3 a3) 4 a4) 5 a5
theorem at_other6 {w : World} {X Z U : Nat} {cs : Array Value} (h : At w X cs U) (hn : X ≠ Z) (a0 a1 a2 a3 a4 a5 : Value) : At (set6 w Z a0 a1 a2 a3 a4 a5) X cs U := at_other (at_other (at_other (at_other (at_other (at_other h hn 0 a0) hn 1 a1) hn 2 a2) hn 3 a3) hn 4 a4) hn 5 a5
theorem kept_set6 {W w : World} (h : Kept W w) {Z : Nat} (hZ : W.heap.size ≤ Z) (a0 a1 a2 a3 a4 a5 : Value) : Kept W (set6 w Z a0 a1 a2 a3 a4 a5) := kept_set (kept_set (kept_set (kept_set (kept_set (kept_set h hZ 0 a0) hZ 1 a1) hZ 2 a2) hZ 3 a3) hZ 4 a4) hZ 5 a5
theorem og_set6 {α : Type} {enc : α → List Value} {c U B : Nat} {w : World} {v : Value} {xs : List α} (h : Og enc c U w B v xs) {Z : Nat} (hZ : Z < B) (a0 a1 a2 a3 a4 a5 : Value) : Og enc c U (set6 w Z a0 a1 a2 a3 a4 a5) B v xs := og_set (og_set (og_set (og_set (og_set (og_set h hZ 0 a0) hZ 1 a1) hZ 2 a2) hZ 3 a3) hZ 4 a4) hZ 5 a5
theorem resBP {fn : Func} {p q : Tmp} (h : fn.results = #[.tmp q, .cell p 30]) (tmps : Array Value) {w : World} {Z : Nat} {cs : Array Value} (hp : tmps.getD p undef = .pointer (some ⟨Z, 0, none⟩)) (hld : (loadVar 30 ⟨Z, 0, none⟩).run Try.prog w = .ok (.agg cs) w) :
    (results fn tmps).run Try.prog w = .ok (.tuple #[tmps.getD q undef, .agg cs]) w := by
  have hp' : tmps[p]?.getD undef = .pointer (some ⟨Z, 0, none⟩) := by simpa using hp
  simp [results, h, asAddr, Sem.run_bind, Sem.run_pure, Result.andThen, hp', hld]
theorem at_drewN {w : World} {X U n : Nat} {cs : Array Value} (h : At w X cs U) : At (w.drewN n) X cs U := h
def woA (a : Int) (w : Wt) : Bool := w.node != a
theorem filtW_next {l : List Wt} {k : Nat} {y : Wt} (h : l[k]? = some y) (a : Int) : (l.take (k + 1)).filter (woA a) = (l.take k).filter (woA a) ++ (if woA a y then [y] else []) := by
  rw [take_next h, List.filter_append]
  congr 1
  cases e : woA a y <;> simp [e]
theorem less_is (ws : List Wt) (a : Int) : decide ((ws.filter (woA a)).length < ws.length) = isW ws a := by
  unfold isW
  induction ws with
  | nil => simp
  | cons w ws ih =>
    have hle := List.length_filter_le (woA a) ws
    rw [List.filter_cons]
    by_cases e : w.node = a
    · have : woA a w = false := by unfold woA; simp [e]
      rw [this]
      simp [e]
      omega
    · have hw : woA a w = true := by unfold woA; simpa using e
      rw [hw]
      have hn : ¬ a = w.node := fun h => e h.symm
      simp only [if_true, List.length_cons, List.map_cons, List.mem_cons, hn, false_or]
      rw [← ih]
      congr 1
      simp
set_option maxHeartbeats 25600000 in
theorem ranswer_any (p : Pb) (hl : p.waits.length ≤ 1000) (rv wv : Value) (x : Int) (w : World) (h : Rp w p rv wv) : Calls Try.prog 14 #[.agg (cellsP p rv wv), .int .u8 x] w fun e w' => ∃ wv', e = .returned (.tuple #[.bool (isW p.waits x), .agg (cellsP (ansP p x) rv wv')]) ∧ Og encW 2 82 w' w.heap.size wv' (ansP p x).waits ∧ Kept w w' := by
  unfold cellsP
  obtain ⟨ra, rc, rfl, -, -, -, -⟩ := h.r
  obtain ⟨a, cap, rfl, -, -, -, -⟩ := h.w
  have hz := zeroP
  have k0 := kept_alloc (kept_refl w) (.cells #[.int .u8 p.self, .int .i64 (p.n : Int), .slice ra p.row.length rc, .int .i64 (p.place : Int), .slice a p.waits.length cap, .int .i64 (p.ticks : Int)] 30)
  have a0 := at_new w #[.int .u8 p.self, .int .i64 (p.n : Int), .slice ra p.row.length rc, .int .i64 (p.place : Int), .slice a p.waits.length cap, .int .i64 (p.ticks : Int)] 30
  obtain ⟨w0, hw0⟩ : ∃ u, w.alloc (.cells #[.int .u8 p.self, .int .i64 (p.n : Int), .slice ra p.row.length rc, .int .i64 (p.place : Int), .slice a p.waits.length cap, .int .i64 (p.ticks : Int)] 30) = u := ⟨_, rfl⟩
  obtain ⟨Z, hZ⟩ : ∃ u, w.heap.size = u := ⟨_, rfl⟩
  rw [hw0] at k0 a0
  rw [hZ] at a0
  have k1 := kept_alloc (kept_refl w0) (.cells #[.int .u8 0, .int .i64 0, .slice none 0 0, .int .i64 0, .slice none 0 0, .int .i64 0] 30)
  have b1 := at_new w0 #[.int .u8 0, .int .i64 0, .slice none 0 0, .int .i64 0, .slice none 0 0, .int .i64 0] 30
  obtain ⟨w1, hw1⟩ : ∃ u, w0.alloc (.cells #[.int .u8 0, .int .i64 0, .slice none 0 0, .int .i64 0, .slice none 0 0, .int .i64 0] 30) = u := ⟨_, rfl⟩
  obtain ⟨R, hR⟩ : ∃ u, w0.heap.size = u := ⟨_, rfl⟩
  rw [hw1] at k1 b1
  rw [hR] at b1
  have HO0 := hid (builtW w1)
  have k2 := kept_alloc (kept_refl w1) (.cells #[] 82)
  obtain ⟨w2, hw2⟩ : ∃ u, w1.alloc (.cells #[] 82) = u := ⟨_, rfl⟩
  obtain ⟨B, hB⟩ : ∃ u, w1.heap.size = u := ⟨_, rfl⟩
  rw [hw2, hB] at HO0
  rw [hw2] at k2
  have HNE : Hid (Z < R ∧ R < B ∧ w.heap.size = Z ∧ w1.heap.size = B) := hid ⟨by have := at_lt a0; omega, by have := at_lt b1; omega, hZ, hB⟩
  have HZ := hid (at_kept a0 k1)
  have HRr := hid b1
  have HK := hid (kept_trans k0 k1)
  have HK2 := hid k2
  have HR := hid (rg_kept encW_ok h.w HK.out)
  obtain ⟨q0, q1, q2, q3, q4, q5⟩ := at_cells6 (at_kept HZ.out k2)
  have HG : Hid (∀ k, k < p.waits.length → ∃ y, p.waits[k]? = some y) := hid (fun k hk => ⟨p.waits[k], List.getElem?_eq_getElem hk⟩)
  have HPp : Hid (0 < p.waits.length → ∃ g o, a = some ⟨g, o, none⟩) := hid (fun hp => by
    obtain ⟨g, o, c, e⟩ := rg_pos HR.out hp
    injection e with e1
    exact ⟨g, o, e1⟩)
  have HT : Hid (p.waits.take p.waits.length = p.waits) := hid List.take_length
  have HIs := hid (less_is p.waits x)
  have HLt : Hid (∀ k, ((p.waits.take k).filter (woA x)).length ≤ 1000) := hid (fun k => by
    have := List.length_filter_le (woA x) (p.waits.take k)
    rw [List.length_take] at this
    omega)
  have HEnd : Hid (∀ wv' u b, b = isW p.waits x → Og encW 2 82 u B wv' (p.waits.filter (woA x)) → Kept w u → (∃ v, (Ending.returned (.tuple #[.bool b, .agg #[.int .u8 p.self, .int .i64 (p.n : Int), .slice ra p.row.length rc, .int .i64 (p.place : Int), wv', .int .i64 (p.ticks : Int)]])) = .returned (.tuple #[.bool (isW p.waits x), .agg #[.int .u8 (ansP p x).self, .int .i64 ((ansP p x).n : Int), .slice ra p.row.length rc, .int .i64 ((ansP p x).place : Int), v, .int .i64 ((ansP p x).ticks : Int)]]) ∧ Og encW 2 82 u w.heap.size v (ansP p x).waits ∧ Kept w u)) := hid (fun wv' u b hb h5 h6 => ⟨wv', by rw [hb]; rfl, og_low h5 (by have := HNE.out; omega), h6⟩)
  clear k0 a0 k1 b1 k2 h
  go_enter Try.func14, Try.ntmps14
  go_wp2_with fail
  clear hw0 hw1 hw2 hZ hR hB q0 q1 q2 q3 q4 q5
  generalize hm : p.waits.length = m at *
  go_loopw [6, 13] (fun ks j wr => ∃ k : Nat, k ≤ m ∧ j = .int .i64 k ∧ Hid (Og encW 2 82 wr B ks ((p.waits.take k).filter (woA x))) ∧ Hid (Kept w1 wr ∧ B ≤ wr.heap.size)) (fun _ j _ => m - (intOf j).toNat)
  case atStart => exact ⟨0, Nat.zero_le _, rfl, HO0, hid ⟨HK2.out, by have := og_at_lt2 HO0.out (g := B) rfl; omega⟩⟩
  case round =>
    obtain ⟨k, hk, rfl, HO, HKr⟩ := hrel
    clear HO0 HK2
    by_cases hlt : k < m
    · obtain ⟨y, hy⟩ := HG.out k hlt
      obtain ⟨g, o, rfl⟩ := HPp.out (by omega)
      obtain ⟨c0, c1⟩ := rg_W (rg_kept encW_ok HR.out HKr.out.1) hy
      obtain ⟨q0, q1, q2, q3, q4, q5⟩ := at_cells6 (at_kept HZ.out HKr.out.1)
      have HNx := hid (filtW_next hy x)
      clear hy
      cases hb : woA x y with
      | false =>
        rw [hb, if_neg (by simp), List.append_nil] at HNx
        have hne : (y.node != x) = false := hb
        clear hb
        go_wp2_with fail
        go_roundw
        case rel => exact ⟨k + 1, by omega, by go_num, hid (by rw [HNx.out]; exact HO.out), HKr⟩
        case measure => simp [intOf]; omega
      | true =>
        rw [hb, if_pos rfl] at HNx
        have hne : (y.node != x) = true := hb
        clear hb
        have HKa := hid (kept_alloc HKr.out.1 (.cells #[.int .u8 y.node, .int .i64 (y.since : Int)] 82))
        have HOa := hid (og_stays HO.out (kept_alloc (kept_refl wr) (.cells #[.int .u8 y.node, .int .i64 (y.since : Int)] 82)))
        have HAl := hid (rg_alone encW_ok (y := y) (at_new wr #[.int .u8 y.node, .int .i64 (y.since : Int)] 82))
        have HBw : Hid (B ≤ (wr.alloc (.cells #[.int .u8 y.node, .int .i64 (y.since : Int)] 82)).heap.size) := hid (by rw [World.size_alloc]; have := HKr.out.2; omega)
        go_wp2_with (at_builtin; go_must (refine wpList_gapp rfl (.tmp 24) (.tmp 30) rfl encW_ok tyW (by decide) B _ _ _ _ rfl HOa.out rfl HAl.out (by have := HLt.out k; simp; omega) HBw.out ?_; intro v3 w4 hown3 hgrow3 hnil3))
        have HO3 : Hid (Og encW 2 82 w4 B v3 ((p.waits.take (k + 1)).filter (woA x))) := hid (by rw [HNx.out]; exact hown3)
        have HK3 : Hid (Kept w1 w4 ∧ B ≤ w4.heap.size) := hid ⟨kept_gr HKa.out hgrow3 (fun j hj => by have := og_lt HOa.out hj; have := HNE.out; omega), by have := hgrow3.size; have := HBw.out; omega⟩
        go_roundw
        case rel => exact ⟨k + 1, by omega, by go_num, HO3, HK3⟩
        case measure => simp [intOf]; omega
    · have he : k = m := by omega
      subst he
      rw [HT.out] at HO
      obtain ⟨va, vc, hks, -, -⟩ := og_is encW_ok HO.out
      subst hks
      obtain ⟨q0, q1, q2, q3, q4, q5⟩ := at_cells6 (at_kept HZ.out HKr.out.1)
      have qf := at_frozen (at_kept HZ.out HKr.out.1)
      have HZ5 := hid (at_set (at_kept HZ.out HKr.out.1) 4 (.slice va (p.waits.filter (woA x)).length vc))
      have HR5 := hid (at_other (at_kept HRr.out HKr.out.1) (show R ≠ Z by have := HNE.out; omega) 4 (.slice va (p.waits.filter (woA x)).length vc))
      have HO5 := hid (og_set HO.out (show Z < B by have := HNE.out; omega) 4 (.slice va (p.waits.filter (woA x)).length vc))
      have HK5 := hid (kept_set (kept_trans HK.out HKr.out.1) (show w.heap.size ≤ Z by have := HNE.out; omega) 4 (.slice va (p.waits.filter (woA x)).length vc))
      have hbb : decide (((p.waits.filter (woA x)).length : Int) < (k : Int)) = isW p.waits x := by rw [← HIs.out]; simp
      have hbc : decide ((p.waits.filter (woA x)).length < k) = isW p.waits x := HIs.out
      go_wp2_with fail
      generalize hw5 : wr.setCell ⟨Z, 4, none⟩ (.slice va (p.waits.filter (woA x)).length vc) = w5 at *
      obtain ⟨s0, s1, s2, s3, s4, s5⟩ := at_cells6 HZ5.out
      obtain ⟨t0, t1, t2, t3, t4, t5⟩ := at_cells6 HR5.out
      have tf := at_frozen HR5.out
      go_region
      have HB7 := hid (at_set6 HR5.out (.int .u8 p.self) (.int .i64 (p.n : Int)) (.slice ra p.row.length rc) (.int .i64 (p.place : Int)) (.slice va (p.waits.filter (woA x)).length vc) (.int .i64 (p.ticks : Int)))
      have HO7 := hid (og_set6 HO5.out (show R < B by have := HNE.out; omega) (.int .u8 p.self) (.int .i64 (p.n : Int)) (.slice ra p.row.length rc) (.int .i64 (p.place : Int)) (.slice va (p.waits.filter (woA x)).length vc) (.int .i64 (p.ticks : Int)))
      have HK7 := hid (kept_set6 HK5.out (show w.heap.size ≤ R by have := HNE.out; omega) (.int .u8 p.self) (.int .i64 (p.n : Int)) (.slice ra p.row.length rc) (.int .i64 (p.place : Int)) (.slice va (p.waits.filter (woA x)).length vc) (.int .i64 (p.ticks : Int)))
      clear s0 s1 s2 s3 s4 s5 t0 t1 t2 t3 t4 t5 tf q0 q1 q2 q3 q4 q5 qf hw5
      unfold set6 at HB7 HO7 HK7
      go_wp2_with fail
      refine bodyPost_ret (resBP Try.results14 _ rfl (loadP (at_drew HB7.out))) rfl ?_
      exact HEnd.out _ _ _ rfl (og_stays HO7.out (kept_drew (kept_refl _))) (kept_drew HK7.out)
end Go.Proofs.Ytgmcjnhijgnadaa
