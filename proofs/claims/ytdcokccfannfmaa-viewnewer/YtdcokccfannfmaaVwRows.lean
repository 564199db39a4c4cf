/- Members, news and nodes in memory; the contracts of the references' Same, of the reference's Newer, Fresh, Up and All. -/
import Derived.Test.YtdcokccfannfmaaViewMath
import Derived.Test.YtdcokccfannfmaaGPut
import Derived.Test.YtdcokccfannfmaaRows
import Derived.BigQuiet
import Derived.Deep.DeepMust
namespace Go.Proofs.Ytdcokccfannfmaa
open Go.ChangeShapes Go.WideShapes Go.ChangeAt Go.RowKit
set_option linter.unusedVariables false
set_option linter.unusedSimpArgs false
set_option maxRecDepth 100000

theorem kept_drewN {W w : World} (h : Kept W w) (n : Nat) : Kept W (w.drewN n) := h
theorem says_bool {x y : Bool} (e : x = y) : Ending.returned (.bool x) = Ending.returned (.bool y) := congrArg (fun z => Ending.returned (.bool z)) e
def encM (m : M) : List Value := [.int .u8 m.st, .int .u32 m.inc]
def encN (x : Nw) : List Value := [.int .u8 x.node, .int .u8 x.m.st, .int .u32 x.m.inc]
def encU (x : Int) : List Value := [.int .u8 x]
theorem encM_ok : Enc encM 2 := ⟨by decide, fun _ => rfl, fun x v hv => by
  simp only [encM, List.mem_cons, List.not_mem_nil, or_false] at hv
  rcases hv with rfl | rfl <;> rfl⟩
theorem encN_ok : Enc encN 3 := ⟨by decide, fun _ => rfl, fun x v hv => by
  simp only [encN, List.mem_cons, List.not_mem_nil, or_false] at hv
  rcases hv with rfl | rfl | rfl <;> rfl⟩
theorem encU_ok : Enc encU 1 := ⟨by decide, fun _ => rfl, fun x v hv => by
  simp only [encU, List.mem_cons, List.not_mem_nil, or_false] at hv
  rcases hv with rfl
  rfl⟩
theorem infoM : (Try.prog.info? 33).map (fun i => (i.zero, i.size, i.bytes)) = some (some (.agg #[.int .u8 0, .int .u32 0]), 2, 8) := by kernel_rfl
theorem infoN : (Try.prog.info? 42).map (fun i => (i.zero, i.size, i.bytes)) = some (some (.agg #[.int .u8 0, .int .u8 0, .int .u32 0]), 3, 12) := by kernel_rfl
theorem infoU : (Try.prog.info? 5).map (fun i => (i.zero, i.size, i.bytes)) = some (some (.int .u8 0), 1, 1) := by kernel_rfl
theorem tyM : TyG Try.prog 22 33 2 8 := by
  obtain ⟨i0, hi, hz0, hz1, hz2⟩ := info_parts infoM
  exact ⟨Try.underlying22, i0, _, hi, hz0, hz1, hz2, rfl⟩
theorem tyN : TyG Try.prog 23 42 3 12 := by
  obtain ⟨i0, hi, hz0, hz1, hz2⟩ := info_parts infoN
  exact ⟨Try.underlying23, i0, _, hi, hz0, hz1, hz2, rfl⟩
theorem tyU : TyG Try.prog 37 5 1 1 := by
  obtain ⟨i0, hi, hz0, hz1, hz2⟩ := info_parts infoU
  exact ⟨Try.underlying37, i0, _, hi, hz0, hz1, hz2, rfl⟩
theorem zeroM (w : World) : (zeroValue 33).run Try.prog w = .ok (.agg #[.int .u8 0, .int .u32 0]) w := by kernel_rfl
theorem zeroN (w : World) : (zeroValue 42).run Try.prog w = .ok (.agg #[.int .u8 0, .int .u8 0, .int .u32 0]) w := by kernel_rfl
theorem rg_M {w : World} {g o n cap : Nat} {xs : List M} (h : Rg encM 2 w (.slice (some ⟨g, o, none⟩) n cap) xs) {i : Nat} {x : M} (hx : xs[i]? = some x) : w.cell? ⟨g, o + i * 2, none⟩ = some (.int .u8 x.st) ∧ w.cell? ⟨g, o + i * 2 + 1, none⟩ = some (.int .u32 x.inc) := by
  obtain ⟨a, c, e, _, _, _, h⟩ := h
  injection e with e1 e2 e3
  have hi := (List.getElem?_eq_some_iff.1 hx).1
  obtain ⟨g', o', e4, hc⟩ := h (by omega)
  rw [← e1] at e4
  injection e4 with e4
  injection e4 with e4 e5
  subst e4 e5
  exact ⟨hc i x 0 _ hx rfl, hc i x 1 _ hx rfl⟩
theorem rg_N {w : World} {g o n cap : Nat} {xs : List Nw} (h : Rg encN 3 w (.slice (some ⟨g, o, none⟩) n cap) xs) {i : Nat} {x : Nw} (hx : xs[i]? = some x) : w.cell? ⟨g, o + i * 3, none⟩ = some (.int .u8 x.node) ∧ w.cell? ⟨g, o + i * 3 + 1, none⟩ = some (.int .u8 x.m.st) ∧ w.cell? ⟨g, o + i * 3 + 2, none⟩ = some (.int .u32 x.m.inc) := by
  obtain ⟨a, c, e, _, _, _, h⟩ := h
  injection e with e1 e2 e3
  have hi := (List.getElem?_eq_some_iff.1 hx).1
  obtain ⟨g', o', e4, hc⟩ := h (by omega)
  rw [← e1] at e4
  injection e4 with e4
  injection e4 with e4 e5
  subst e4 e5
  exact ⟨hc i x 0 _ hx rfl, hc i x 1 _ hx rfl, hc i x 2 _ hx rfl⟩
theorem rg_U {w : World} {g o n cap : Nat} {xs : List Int} (h : Rg encU 1 w (.slice (some ⟨g, o, none⟩) n cap) xs) {i : Nat} {x : Int} (hx : xs[i]? = some x) : w.cell? ⟨g, o + i, none⟩ = some (.int .u8 x) := by
  obtain ⟨a, c, e, _, _, _, h⟩ := h
  injection e with e1 e2 e3
  have hi := (List.getElem?_eq_some_iff.1 hx).1
  obtain ⟨g', o', e4, hc⟩ := h (by omega)
  rw [← e1] at e4
  injection e4 with e4
  injection e4 with e4 e5
  subst e4 e5
  have := hc i x 0 _ hx rfl
  rw [Nat.mul_one, Nat.add_zero] at this
  exact this
theorem rg_pos {α : Type} {enc : α → List Value} {c : Nat} {w : World} {v : Value} {xs : List α} (h : Rg enc c w v xs) (hp : 0 < xs.length) : ∃ g o cap, v = .slice (some ⟨g, o, none⟩) xs.length cap := by
  obtain ⟨a, cap, rfl, _, _, _, h⟩ := h
  obtain ⟨g, o, rfl, _⟩ := h hp
  exact ⟨g, o, cap, rfl⟩
theorem take_next {α : Type} {l : List α} {k : Nat} {y : α} (h : l[k]? = some y) : l.take (k + 1) = l.take k ++ [y] := by
  have hk := (List.getElem?_eq_some_iff.1 h).1
  have e2 := (List.getElem?_eq_some_iff.1 h).2
  rw [List.take_succ_eq_append_getElem hk, e2]
theorem eq_M (a b : M) (w : World) : (Op.equalIn 10000 33 (.agg #[.int .u8 a.st, .int .u32 a.inc]) (.agg #[.int .u8 b.st, .int .u32 b.inc])).run Try.prog w = .ok (sameM a b) w := by
  go_simp
  unfold sameM
  repeat' split
  all_goals simp_all
theorem eq_self_M (a : M) (w : World) : (Op.equalIn 10000 33 (.agg #[.int .u8 a.st, .int .u32 a.inc]) (.agg #[.int .u8 a.st, .int .u32 a.inc])).run Try.prog w = .ok true w := by
  go_simp
theorem eq_self_N (a : Nw) (w : World) : (Op.equalIn 10000 42 (.agg #[.int .u8 a.node, .int .u8 a.m.st, .int .u32 a.m.inc]) (.agg #[.int .u8 a.node, .int .u8 a.m.st, .int .u32 a.m.inc])).run Try.prog w = .ok true w := by
  go_simp
set_option maxHeartbeats 1600000 in
theorem sameM_any (l : List M) (hn : l.length ≤ 4096) (va vb : Value) (w : World) (ha : Rg encM 2 w va l) (hb : Rg encM 2 w vb l) : Calls Try.prog 13 #[va, vb] w fun e w' => e = .returned (.bool true) ∧ Kept w w' := by
  have HRa := hid ha
  have HRb := hid hb
  obtain ⟨a, ca, rfl, -, -, -, -⟩ := ha
  obtain ⟨b, cb, rfl, -, -, -, -⟩ := hb
  have HG : Hid (∀ k, k < l.length → ∃ y, l[k]? = some y) := hid (fun k hk => ⟨l[k], List.getElem?_eq_getElem hk⟩)
  have HPa : Hid (0 < l.length → ∃ g o, a = some ⟨g, o, none⟩) := hid (fun hp => by
    obtain ⟨g, o, c, e⟩ := rg_pos HRa.out hp
    injection e with e1
    exact ⟨g, o, e1⟩)
  have HPb : Hid (0 < l.length → ∃ g o, b = some ⟨g, o, none⟩) := hid (fun hp => by
    obtain ⟨g, o, c, e⟩ := rg_pos HRb.out hp
    injection e with e1
    exact ⟨g, o, e1⟩)
  generalize hm : l.length = m at *
  clear hm
  go_enter Try.func13, Try.ntmps13
  go_wp2_with fail
  go_loopw [13] (fun j wr => ∃ k : Nat, k ≤ m ∧ j = .int .i64 k ∧ Hid (Kept w wr)) (fun j _ => m - (intOf j).toNat)
  case atStart => exact ⟨0, Nat.zero_le _, rfl, hid (kept_refl w)⟩
  case round =>
    obtain ⟨k, hk, rfl, HK⟩ := hrel
    by_cases hlt : k < m
    · obtain ⟨x, hx⟩ := HG.out k hlt
      obtain ⟨g1, o1, rfl⟩ := HPa.out (by omega)
      obtain ⟨g2, o2, rfl⟩ := HPb.out (by omega)
      have e1 := rg_M (rg_kept encM_ok HRa.out HK.out) hx
      have e2 := rg_M (rg_kept encM_ok HRb.out HK.out) hx
      obtain ⟨a0, a1⟩ := e1
      obtain ⟨b0, b1⟩ := e2
      have heq := eq_self_M x
      clear hx
      go_wp2_with fail
      go_quiet (fail)
      go_wp2_with fail
      go_roundw
      case rel => exact ⟨k + 1, by omega, by go_num, hid (kept_drewN HK.out _)⟩
      case measure => simp [intOf]; omega
    · have he : k = m := by omega
      subst he
      go_wp2_with fail
      go_ret
      exact ⟨rfl, HK.out⟩
set_option maxHeartbeats 1600000 in
theorem sameN_any (l : List Nw) (hn : l.length ≤ 4096) (va vb : Value) (w : World) (ha : Rg encN 3 w va l) (hb : Rg encN 3 w vb l) : Calls Try.prog 14 #[va, vb] w fun e w' => e = .returned (.bool true) ∧ Kept w w' := by
  have HRa := hid ha
  have HRb := hid hb
  obtain ⟨a, ca, rfl, -, -, -, -⟩ := ha
  obtain ⟨b, cb, rfl, -, -, -, -⟩ := hb
  have HG : Hid (∀ k, k < l.length → ∃ y, l[k]? = some y) := hid (fun k hk => ⟨l[k], List.getElem?_eq_getElem hk⟩)
  have HPa : Hid (0 < l.length → ∃ g o, a = some ⟨g, o, none⟩) := hid (fun hp => by
    obtain ⟨g, o, c, e⟩ := rg_pos HRa.out hp
    injection e with e1
    exact ⟨g, o, e1⟩)
  have HPb : Hid (0 < l.length → ∃ g o, b = some ⟨g, o, none⟩) := hid (fun hp => by
    obtain ⟨g, o, c, e⟩ := rg_pos HRb.out hp
    injection e with e1
    exact ⟨g, o, e1⟩)
  generalize hm : l.length = m at *
  clear hm
  go_enter Try.func14, Try.ntmps14
  go_wp2_with fail
  go_loopw [13] (fun j wr => ∃ k : Nat, k ≤ m ∧ j = .int .i64 k ∧ Hid (Kept w wr)) (fun j _ => m - (intOf j).toNat)
  case atStart => exact ⟨0, Nat.zero_le _, rfl, hid (kept_refl w)⟩
  case round =>
    obtain ⟨k, hk, rfl, HK⟩ := hrel
    by_cases hlt : k < m
    · obtain ⟨x, hx⟩ := HG.out k hlt
      obtain ⟨g1, o1, rfl⟩ := HPa.out (by omega)
      obtain ⟨g2, o2, rfl⟩ := HPb.out (by omega)
      have e1 := rg_N (rg_kept encN_ok HRa.out HK.out) hx
      have e2 := rg_N (rg_kept encN_ok HRb.out HK.out) hx
      obtain ⟨a0, a1, a2⟩ := e1
      obtain ⟨b0, b1, b2⟩ := e2
      have heq := eq_self_N x
      clear hx
      go_wp2_with fail
      go_quiet (fail)
      go_wp2_with fail
      go_roundw
      case rel => exact ⟨k + 1, by omega, by go_num, hid (kept_drewN HK.out _)⟩
      case measure => simp [intOf]; omega
    · have he : k = m := by omega
      subst he
      go_wp2_with fail
      go_ret
      exact ⟨rfl, HK.out⟩
set_option maxHeartbeats 1600000 in
theorem sameU_any (l : List Int) (hn : l.length ≤ 4096) (va vb : Value) (w : World) (ha : Rg encU 1 w va l) (hb : Rg encU 1 w vb l) : Calls Try.prog 19 #[va, vb] w fun e w' => e = .returned (.bool true) ∧ Kept w w' := by
  have HRa := hid ha
  have HRb := hid hb
  obtain ⟨a, ca, rfl, -, -, -, -⟩ := ha
  obtain ⟨b, cb, rfl, -, -, -, -⟩ := hb
  have HG : Hid (∀ k, k < l.length → ∃ y, l[k]? = some y) := hid (fun k hk => ⟨l[k], List.getElem?_eq_getElem hk⟩)
  have HPa : Hid (0 < l.length → ∃ g o, a = some ⟨g, o, none⟩) := hid (fun hp => by
    obtain ⟨g, o, c, e⟩ := rg_pos HRa.out hp
    injection e with e1
    exact ⟨g, o, e1⟩)
  have HPb : Hid (0 < l.length → ∃ g o, b = some ⟨g, o, none⟩) := hid (fun hp => by
    obtain ⟨g, o, c, e⟩ := rg_pos HRb.out hp
    injection e with e1
    exact ⟨g, o, e1⟩)
  generalize hm : l.length = m at *
  clear hm
  go_enter Try.func19, Try.ntmps19
  go_wp2_with fail
  go_loopw [13] (fun j wr => ∃ k : Nat, k ≤ m ∧ j = .int .i64 k ∧ Hid (Kept w wr)) (fun j _ => m - (intOf j).toNat)
  case atStart => exact ⟨0, Nat.zero_le _, rfl, hid (kept_refl w)⟩
  case round =>
    obtain ⟨k, hk, rfl, HK⟩ := hrel
    by_cases hlt : k < m
    · obtain ⟨x, hx⟩ := HG.out k hlt
      obtain ⟨g1, o1, rfl⟩ := HPa.out (by omega)
      obtain ⟨g2, o2, rfl⟩ := HPb.out (by omega)
      have e1 := rg_U (rg_kept encU_ok HRa.out HK.out) hx
      have e2 := rg_U (rg_kept encU_ok HRb.out HK.out) hx
      have hne : (x != x) = false := by simp
      clear hx
      go_wp2_with fail
      go_quiet (fail)
      go_wp2_with fail
      go_roundw
      case rel => exact ⟨k + 1, by omega, by go_num, hid (kept_drewN HK.out _)⟩
      case measure => simp [intOf]; omega
    · have he : k = m := by omega
      subst he
      go_wp2_with fail
      go_ret
      exact ⟨rfl, HK.out⟩
theorem at_cells2 {w : World} {X T : Nat} {a0 a1 : Value} (h : At w X #[a0, a1] T) : w.cell? ⟨X, 0, none⟩ = some a0 ∧ w.cell? ⟨X, 1, none⟩ = some a1 := ⟨at_cell h 0, at_cell h 1⟩
set_option maxHeartbeats 800000 in
theorem rnewer_any (a b : M) (w : World) : Calls Try.prog 16 #[.agg #[.int .u8 a.st, .int .u32 a.inc], .agg #[.int .u8 b.st, .int .u32 b.inc]] w fun e w' => e = .returned (.bool (nwr a b)) ∧ Kept w w' := by
  have HK := hid (kept_alloc (kept_alloc (kept_refl w) (.cells #[.int .u8 a.st, .int .u32 a.inc] 33)) (.cells #[.int .u8 b.st, .int .u32 b.inc] 33))
  by_cases h : a.inc = b.inc
  · have e1 : (a.inc != b.inc) = false := by simpa using h
    have HE : Hid (nwr a b = decide (b.st < a.st)) := hid (by unfold nwr; simp [h])
    clear h
    go_enter Try.func16, Try.ntmps16
    go_wp2_with fail
    go_ret
    exact ⟨says_bool HE.out.symm, HK.out⟩
  · have e1 : (a.inc != b.inc) = true := by simpa using h
    have HE : Hid (nwr a b = decide (b.inc < a.inc)) := hid (by unfold nwr; simp [h])
    clear h
    go_enter Try.func16, Try.ntmps16
    go_wp2_with fail
    go_ret
    exact ⟨says_bool HE.out.symm, HK.out⟩
theorem builtM (w : World) : Og encM 2 33 (w.alloc (.cells #[] 33)) w.heap.size (.slice (some ⟨w.heap.size, 0, none⟩) 0 0) [] := og_built encM_ok 33 w _ (Nat.le_refl _) [] (by decide)
theorem builtN (w : World) : Og encN 3 42 (w.alloc (.cells #[] 42)) w.heap.size (.slice (some ⟨w.heap.size, 0, none⟩) 0 0) [] := og_built encN_ok 42 w _ (Nat.le_refl _) [] (by decide)
theorem builtU (w : World) : Og encU 1 5 (w.alloc (.cells #[] 5)) w.heap.size (.slice (some ⟨w.heap.size, 0, none⟩) 0 0) [] := og_built encU_ok 5 w _ (Nat.le_refl _) [] (by decide)
theorem u8_wrap (x : Int) (h1 : 0 ≤ x) (h2 : x < 256) : IntKind.u8.wrap x = x := by rw [IntKind.wrap_u8]; omega
set_option maxHeartbeats 1600000 in
theorem rfresh_any (n : Int) (w : World) : Calls Try.prog 18 #[.int .i64 n] w (GRowN encM 2 33 (fresh n) w) := by
  have HO0 := hid (builtM w)
  have HK0 := hid (kept_alloc (kept_refl w) (.cells #[] 33))
  by_cases hbig : (64 : Int) < n
  · have HE : Hid (fresh n = []) := hid (by unfold fresh; rw [if_pos hbig])
    go_enter Try.func18, Try.ntmps18
    go_wp2_with fail
    go_ret
    exact ⟨_, rfl, by rw [HE.out]; exact HO0.out, by simp, HK0.out⟩
  · have HE : Hid (fresh n = List.replicate n.toNat ⟨1, 0⟩) := hid (by unfold fresh; rw [if_neg hbig])
    have HN : Hid (n.toNat ≤ 64) := hid (by omega)
    go_enter Try.func18, Try.ntmps18
    go_wp2_with fail
    generalize w.alloc (.cells #[] 33) = w0 at *
    generalize hB0 : w.heap.size = B0 at *
    have HB0 := hid hB0
    clear hB0
    go_loopw [3, 4] (fun ks j wr => ∃ k : Nat, k ≤ n.toNat ∧ j = .int .i64 (k : Int) ∧ Hid (Og encM 2 33 wr B0 ks (List.replicate k ⟨1, 0⟩)) ∧ Hid (ks ≠ .slice none 0 0) ∧ Hid (Kept w wr)) (fun _ j _ => n.toNat - (intOf j).toNat)
    case atStart => exact ⟨0, Nat.zero_le _, rfl, HO0, hid (by simp), HK0⟩
    case round =>
      obtain ⟨k, hk, rfl, HO, HNn, HKr⟩ := hrel
      clear HO0 HK0
      by_cases hlt : (k : Int) < n
      · have HKa := hid (kept_alloc HKr.out (.cells #[.int .u8 1, .int .u32 0] 33))
        have HOx := hid (og_stays HO.out (kept_alloc (kept_refl wr) (.cells #[.int .u8 1, .int .u32 0] 33)))
        have HAl := hid (rg_alone encM_ok (y := ⟨1, 0⟩) (at_new wr #[.int .u8 1, .int .u32 0] 33))
        have HBw : Hid (B0 ≤ (wr.alloc (.cells #[.int .u8 1, .int .u32 0] 33)).heap.size) := hid (by have := HKa.out.2; have := HB0.out; omega)
        have hk64 : k ≤ 64 := by have := HN.out; omega
        have zs := zeroM wr
        go_wp2_with (at_builtin; go_must (refine wpList_gapp rfl (.tmp 14) (.tmp 16) rfl encM_ok tyM (by decide) B0 _ _ _ _ rfl HOx.out rfl HAl.out (by simp; omega) HBw.out ?_; intro v3 w3 hown3 hgrow3 hnil3))
        have HO3 : Hid (Og encM 2 33 w3 B0 v3 (List.replicate (k + 1) ⟨1, 0⟩)) := hid (by rw [List.replicate_succ']; exact hown3)
        have HK3 := hid (kept_gr HKa.out hgrow3 (fun j hj => by have := og_lt HOx.out hj; have := HB0.out; omega))
        go_roundw
        case rel => exact ⟨k + 1, by omega, by go_num, HO3, hid (hnil3 HNn.out), HK3⟩
        case measure => simp [intOf]; omega
      · have he : k = n.toNat := by omega
        subst he
        go_wp2_with fail
        go_ret
        exact ⟨_, rfl, by rw [HE.out, HB0.out]; exact HO.out, HNn.out, HKr.out⟩
end Go.Proofs.Ytdcokccfannfmaa
