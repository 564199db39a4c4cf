/- The contract of the program's Decode: the frame that bytes are, or its error. It turns at most the codec's own table. The text has at most 2^47 bytes. -/
import Derived.Test.YtffobfjknbgglaaCheck
import Derived.Laws.ResultCell
namespace Go.Proofs.Ytffobfjknbgglaa
open Go.ChangeShapes Go.WideShapes Go.ChangeAt Go.RowKit
set_option linter.unusedVariables false
set_option linter.unusedSimpArgs false

def bodyOf (s : ByteArray) : ByteArray := s.extract 8 (s.size - 4)
def decV (s : ByteArray) : Value :=
  if why s.data.toList = 0 then frameV (at_ s.data.toList 1) (at_ s.data.toList 2) (at_ s.data.toList 3) (bodyOf s) else frameV 0 0 0 ⟨#[]⟩
theorem turn_set {b X : Nat} {u w : World} (h : Turn b u w) (hX : u.heap.size ≤ X) (o : Nat) (v : Value) : Turn b u (w.setCell ⟨X, o, none⟩ v) := by
  have hz : (w.setCell ⟨X, o, none⟩ v).heap.size = w.heap.size := by simp [World.setCell]
  refine ⟨h.1, h.2.1, by rw [hz]; exact h.2.2.1, fun k hk hn => (Below.heap_setCell _ _ _ _ (by show k ≠ X; omega)).trans (h.2.2.2.1 k hk hn), fun hb ht => ?_⟩
  exact tab_block (h.2.2.2.2 hb ht) (Below.heap_setCell _ _ _ _ (by show b ≠ X; omega))
theorem block_cells {X t : Nat} {w : World} {a0 a1 a2 a3 : Value} (h : w.heap[X]? = some (.cells #[a0, a1, a2, a3] t)) :
    w.cell? ⟨X, 0, none⟩ = some a0 ∧ w.cell? ⟨X, 1, none⟩ = some a1 ∧ w.cell? ⟨X, 2, none⟩ = some a2 ∧ w.cell? ⟨X, 3, none⟩ = some a3 ∧ ∀ j, w.frozen? ⟨X, j, none⟩ = false := by
  refine ⟨?_, ?_, ?_, ?_, fun j => ?_⟩
  · unfold World.cell?; rw [h]; rfl
  · unfold World.cell?; rw [h]; rfl
  · unfold World.cell?; rw [h]; rfl
  · unfold World.cell?; rw [h]; rfl
  · unfold World.frozen?; rw [h]; simp
def set4 (w : World) (X : Nat) (v0 v1 v2 v3 : Value) : World := (((w.setCell ⟨X, 0, none⟩ v0).setCell ⟨X, 1, none⟩ v1).setCell ⟨X, 2, none⟩ v2).setCell ⟨X, 3, none⟩ v3
theorem set4_cells {X : Nat} {w : World} {a0 a1 a2 a3 : Value} (c0 : w.cell? ⟨X, 0, none⟩ = some a0) (c1 : w.cell? ⟨X, 1, none⟩ = some a1) (c2 : w.cell? ⟨X, 2, none⟩ = some a2) (c3 : w.cell? ⟨X, 3, none⟩ = some a3) (v0 v1 v2 v3 : Value) :
    (set4 w X v0 v1 v2 v3).cell? ⟨X, 0, none⟩ = some v0 ∧ (set4 w X v0 v1 v2 v3).cell? ⟨X, 1, none⟩ = some v1 ∧ (set4 w X v0 v1 v2 v3).cell? ⟨X, 2, none⟩ = some v2 ∧ (set4 w X v0 v1 v2 v3).cell? ⟨X, 3, none⟩ = some v3 := by
  unfold set4
  have o : ∀ (u : World) (i j : Nat) (v : Value), i ≠ j → (u.setCell ⟨X, i, none⟩ v).cell? ⟨X, j, none⟩ = u.cell? ⟨X, j, none⟩ := fun u i j v h => World.cell?_setCell_other u ⟨X, i, none⟩ ⟨X, j, none⟩ v (by simp <;> omega)
  refine ⟨?_, ?_, ?_, ?_⟩
  · rw [o _ 3 0 _ (by omega), o _ 2 0 _ (by omega), o _ 1 0 _ (by omega)]; exact World.cell?_setCell_same _ _ _ c0
  · rw [o _ 3 1 _ (by omega), o _ 2 1 _ (by omega)]; exact World.cell?_setCell_same _ _ _ ((o _ 0 1 _ (by omega)).trans c1)
  · rw [o _ 3 2 _ (by omega)]; exact World.cell?_setCell_same _ _ _ (((o _ 1 2 _ (by omega)).trans (o _ 0 2 _ (by omega))).trans c2)
  · exact World.cell?_setCell_same _ _ _ ((((o _ 2 3 _ (by omega)).trans (o _ 1 3 _ (by omega))).trans (o _ 0 3 _ (by omega))).trans c3)
theorem set4_turn {b X : Nat} {u w : World} (h : Turn b u w) (hX : u.heap.size ≤ X) (v0 v1 v2 v3 : Value) : Turn b u (set4 w X v0 v1 v2 v3) :=
  turn_set (turn_set (turn_set (turn_set h hX _ _) hX _ _) hX _ _) hX _ _
theorem load_var {X : Nat} {w : World} {v0 v1 v2 v3 : Value} (c0 : w.cell? ⟨X, 0, none⟩ = some v0) (c1 : w.cell? ⟨X, 1, none⟩ = some v1) (c2 : w.cell? ⟨X, 2, none⟩ = some v2) (c3 : w.cell? ⟨X, 3, none⟩ = some v3) :
    (loadVar 23 ⟨X, 0, none⟩).run Try.prog w = .ok (.agg #[v0, v1, v2, v3]) w := by
  simp [go_sem, loadVar, c0, c1, c2, c3]
theorem res_cell {fn : Func} {p u : Tmp} (h : fn.results = #[.cell p 23, .tmp u]) (tmps : Array Value) {w : World} {X : Nat} {r v0 v1 v2 v3 : Value} (hp : tmps.getD p undef = .pointer (some ⟨X, 0, none⟩)) (hu : tmps.getD u undef = r)
    (c0 : w.cell? ⟨X, 0, none⟩ = some v0) (c1 : w.cell? ⟨X, 1, none⟩ = some v1) (c2 : w.cell? ⟨X, 2, none⟩ = some v2) (c3 : w.cell? ⟨X, 3, none⟩ = some v3) :
    (results fn tmps).run Try.prog w = .ok (.tuple #[.agg #[v0, v1, v2, v3], r]) w := by
  rw [results_cell_tmp h, hp, hu]
  show ((loadVar 23 ⟨X, 0, none⟩).run Try.prog w).andThen _ = _
  rw [load_var c0 c1 c2 c3]
  rfl
theorem zero23 (w : World) : (zeroValue 23).run Try.prog w = .ok (.agg #[.int .u8 0, .int .u8 0, .int .u8 0, .string ⟨#[]⟩]) w := by kernel_rfl
set_option maxHeartbeats 1600000 in
set_option maxRecDepth 100000 in
theorem decode_bad (c b : Nat) (s : ByteArray) (hs : s.size ≤ 140737488355328) (w : World) (h : Codec c b w) (hw : why s.data.toList ≠ 0) :
    Calls Try.prog 12 #[.pointer (some ⟨c, 0, none⟩), .string s] w fun e w' => e = .returned (.tuple #[decV s, .int .i64 (why s.data.toList : Int)]) ∧ Turn b w w' := by
  have e : decV s = frameV 0 0 0 ⟨#[]⟩ := by unfold decV; rw [if_neg hw]
  rw [e]
  have hk := fun w h => check_any c b s hs w h
  generalize why s.data.toList = r at *
  have hri : ((r : Int) != 0) = true := by rw [bne_iff_ne]; omega
  have HW : Hid (Codec c b (w.alloc (.cells #[.int .u8 0, .int .u8 0, .int .u8 0, .string ⟨#[]⟩] 23))) := codec_kept h (kept_below ((Below.refl _ w).alloc (Nat.le_refl _) _))
  have hz := zero23
  have HL : Hid (b < w.heap.size) := h.2.1
  clear h e hw
  go_enter Try.func12, Try.ntmps12
  go_wp2_with fail
  refine (hk _ HW.out).mono ?_
  rintro e w1 ⟨rfl, H1⟩
  have T1 : Turn b w w1 := (turn_below ((Below.refl _ w).alloc (Nat.le_refl _) _)).trans H1
  have hblk : w1.heap[w.heap.size]? = some (.cells #[.int .u8 0, .int .u8 0, .int .u8 0, .string ⟨#[]⟩] 23) := by
    rw [H1.2.2.2.1 _ (by simp) (by have := HL.out; omega)]
    exact alloc_block w _
  obtain ⟨c0, c1, c2, c3, hfz⟩ := block_cells hblk
  have HX : Hid (w.heap.size ≤ w.heap.size) := Nat.le_refl _
  generalize hX : w.heap.size = X at c0 c1 c2 c3 hfz
  have HX : Hid (w.heap.size ≤ X) := Nat.le_of_eq hX
  clear hblk H1 hk HW
  clear hX
  go_wp2_with fail
  have Tf := set4_turn T1 HX.out (.int .u8 0) (.int .u8 0) (.int .u8 0) (.string ⟨#[]⟩)
  obtain ⟨k0, k1, k2, k3⟩ := set4_cells c0 c1 c2 c3 (.int .u8 0) (.int .u8 0) (.int .u8 0) (.string ⟨#[]⟩)
  unfold set4 at Tf k0 k1 k2 k3
  exact bodyPost_ret (res_cell Try.results12 _ rfl rfl k0 k1 k2 k3) rfl ⟨rfl, Tf⟩
theorem slice_body (s : ByteArray) (h : 12 ≤ s.size) (w : World) :
    (Instr.slice 9 (.string s) (some (.int .i64 8)) (some (.int .i64 ((s.size : Int) - 4))) none).run Try.prog w = .ok (.string (bodyOf s)) w := by
  have := run_slice_string (P := Try.prog) w 9 s .i64 .i64 8 ((s.size : Int) - 4) Try.underlying9 (by omega) (by omega) (by omega)
  rw [this]
  unfold bodyOf
  rw [show ((s.size : Int) - 4).toNat = s.size - 4 by omega]
  rfl
set_option maxHeartbeats 1600000 in
set_option maxRecDepth 100000 in
theorem decode_good (c b : Nat) (s : ByteArray) (hs : s.size ≤ 140737488355328) (w : World) (h : Codec c b w) (hw : why s.data.toList = 0) :
    Calls Try.prog 12 #[.pointer (some ⟨c, 0, none⟩), .string s] w fun e w' => e = .returned (.tuple #[decV s, .int .i64 (why s.data.toList : Int)]) ∧ Turn b w w' := by
  have h12 : 12 ≤ s.size := by have := (why_zero _ hw).1; rw [toList_size] at this; exact this
  have e : decV s = frameV s[1] s[2] s[3] (bodyOf s) := by unfold decV; rw [if_pos hw, at_get s 1 (by omega), at_get s 2 (by omega), at_get s 3 (by omega)]
  rw [e]
  have hk := fun w h => check_any c b s hs w h
  rw [hw] at hk ⊢
  have hsl := slice_body s h12
  have hbs : (bodyOf s).size ≤ 140737488355328 := by unfold bodyOf; simp; omega
  have hcl := fun w => clone_any (bodyOf s) hbs w
  have j1 : (1 : Int) < (s.size : Int) := by omega
  have j2 : (2 : Int) < (s.size : Int) := by omega
  have j3 : (3 : Int) < (s.size : Int) := by omega
  generalize bodyOf s = B at *
  have HW : Hid (Codec c b (w.alloc (.cells #[.int .u8 0, .int .u8 0, .int .u8 0, .string ⟨#[]⟩] 23))) := codec_kept h (kept_below ((Below.refl _ w).alloc (Nat.le_refl _) _))
  have hz := zero23
  have HL : Hid (b < w.heap.size) := h.2.1
  clear h e hw hbs
  unfold frameV
  go_enter Try.func12, Try.ntmps12
  go_wp2_with fail
  refine (hk _ HW.out).mono ?_
  rintro e w1 ⟨rfl, H1⟩
  have T1 : Turn b w w1 := (turn_below ((Below.refl _ w).alloc (Nat.le_refl _) _)).trans H1
  have hblk : w1.heap[w.heap.size]? = some (.cells #[.int .u8 0, .int .u8 0, .int .u8 0, .string ⟨#[]⟩] 23) := by
    rw [H1.2.2.2.1 _ (by simp) (by have := HL.out; omega)]
    exact alloc_block w _
  have HX1 : Hid (w.heap.size < w1.heap.size) := by have := H1.2.2.1; simp at this; show _ < _; omega
  clear H1 hk HW
  go_wp2_with fail
  refine (hcl _).mono ?_
  rintro e w2 ⟨rfl, H2⟩
  have T2 : Turn b w w2 := turn_step T1 H2
  have hblk2 : w2.heap[w.heap.size]? = some (.cells #[.int .u8 0, .int .u8 0, .int .u8 0, .string ⟨#[]⟩] 23) := by
    rw [H2.block _ HX1.out]; exact hblk
  obtain ⟨c0, c1, c2, c3, hfz⟩ := block_cells hblk2
  generalize hX : w.heap.size = X at c0 c1 c2 c3 hfz
  have HX : Hid (w.heap.size ≤ X) := Nat.le_of_eq hX
  clear hblk hblk2 H2 T1 HX1 hcl hsl hX
  go_wp2_with fail
  have Tf := turn_drew (set4_turn T2 HX.out (.int .u8 (s[1].toNat : Int)) (.int .u8 (s[2].toNat : Int)) (.int .u8 (s[3].toNat : Int)) (.string B))
  obtain ⟨k0, k1, k2, k3⟩ := set4_cells c0 c1 c2 c3 (.int .u8 (s[1].toNat : Int)) (.int .u8 (s[2].toNat : Int)) (.int .u8 (s[3].toNat : Int)) (.string B)
  have KK : Hid ((set4 w2 X (.int .u8 (s[1].toNat : Int)) (.int .u8 (s[2].toNat : Int)) (.int .u8 (s[3].toNat : Int)) (.string B)).drew.cell? ⟨X, 0, none⟩ = some (.int .u8 (s[1].toNat : Int)) ∧ (set4 w2 X (.int .u8 (s[1].toNat : Int)) (.int .u8 (s[2].toNat : Int)) (.int .u8 (s[3].toNat : Int)) (.string B)).drew.cell? ⟨X, 1, none⟩ = some (.int .u8 (s[2].toNat : Int)) ∧ (set4 w2 X (.int .u8 (s[1].toNat : Int)) (.int .u8 (s[2].toNat : Int)) (.int .u8 (s[3].toNat : Int)) (.string B)).drew.cell? ⟨X, 2, none⟩ = some (.int .u8 (s[3].toNat : Int)) ∧ (set4 w2 X (.int .u8 (s[1].toNat : Int)) (.int .u8 (s[2].toNat : Int)) (.int .u8 (s[3].toNat : Int)) (.string B)).drew.cell? ⟨X, 3, none⟩ = some (.string B)) := ⟨k0, k1, k2, k3⟩
  have TF : Hid (Turn b w (set4 w2 X (.int .u8 (s[1].toNat : Int)) (.int .u8 (s[2].toNat : Int)) (.int .u8 (s[3].toNat : Int)) (.string B)).drew) := Tf
  clear Tf k0 k1 k2 k3
  unfold set4 at KK TF
  go_region
  obtain ⟨k0, k1, k2, k3⟩ := KK.out
  go_wp2_with fail
  exact bodyPost_ret (res_cell Try.results12 _ rfl rfl k0 k1 k2 k3) rfl ⟨rfl, TF.out⟩
theorem decode_any (c b : Nat) (s : ByteArray) (hs : s.size ≤ 140737488355328) (w : World) (h : Codec c b w) :
    Calls Try.prog 12 #[.pointer (some ⟨c, 0, none⟩), .string s] w fun e w' => e = .returned (.tuple #[decV s, .int .i64 (why s.data.toList : Int)]) ∧ Turn b w w' := by
  by_cases hw : why s.data.toList = 0
  · exact decode_good c b s hs w h hw
  · exact decode_bad c b s hs w h hw
theorem decode_nil (s : ByteArray) (w : World) :
    Calls Try.prog 12 #[.pointer none, .string s] w fun e w' => e = .returned (.tuple #[frameV 0 0 0 ⟨#[]⟩, .int .i64 1]) ∧ Kept w w' := by
  have hz := zero23
  have hk := check_nil s
  have hblk := alloc_block w (.cells #[.int .u8 0, .int .u8 0, .int .u8 0, .string ⟨#[]⟩] 23)
  have K1 : Hid (Kept w (w.alloc (.cells #[.int .u8 0, .int .u8 0, .int .u8 0, .string ⟨#[]⟩] 23))) := kept_below ((Below.refl _ w).alloc (Nat.le_refl _) _)
  obtain ⟨c0, c1, c2, c3, hfz⟩ := block_cells hblk
  clear hblk
  unfold frameV
  go_enter Try.func12, Try.ntmps12
  go_wp2_with fail
  refine (hk _).mono ?_
  rintro e w1 ⟨rfl, rfl⟩
  obtain ⟨k0, k1, k2, k3⟩ := set4_cells c0 c1 c2 c3 (.int .u8 0) (.int .u8 0) (.int .u8 0) (.string ⟨#[]⟩)
  have KF : Hid (Kept w (set4 (w.alloc (.cells #[.int .u8 0, .int .u8 0, .int .u8 0, .string ⟨#[]⟩] 23)) w.heap.size (.int .u8 0) (.int .u8 0) (.int .u8 0) (.string ⟨#[]⟩))) := by
    have B0 : Below w.heap.size w (w.alloc (.cells #[.int .u8 0, .int .u8 0, .int .u8 0, .string ⟨#[]⟩] 23)) := (Below.refl _ w).alloc (Nat.le_refl _) _
    exact kept_below ((((B0.setCell (Nat.le_refl _) _).setCell (Nat.le_refl _) _).setCell (Nat.le_refl _) _).setCell (Nat.le_refl _) _)
  clear K1 hk
  generalize w.alloc (.cells #[.int .u8 0, .int .u8 0, .int .u8 0, .string ⟨#[]⟩] 23) = w1 at *
  generalize hX : w.heap.size = X at *
  clear hX
  unfold set4 at k0 k1 k2 k3 KF
  go_wp2_with fail
  exact bodyPost_ret (res_cell Try.results12 _ rfl rfl k0 k1 k2 k3) rfl ⟨rfl, KF.out⟩
end Go.Proofs.Ytffobfjknbgglaa
