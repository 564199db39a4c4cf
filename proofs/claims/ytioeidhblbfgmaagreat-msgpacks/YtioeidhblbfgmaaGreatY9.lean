/- The contract of the program's check: why bytes are no frame, or OK. It turns at most the codec's own table. The text has at most 2^47 bytes. The contract of the program's Decode: the frame that bytes are, or its error. It turns at most the codec's own table. The text has at most 2^47 bytes. The program's calls in the state of a law (codecs of its own, frames in memory of its own), and the fixed examples of the chapter: the law's own function of no argument answers true and turns nothing that was there. Texts have at most 2^47 bytes. The law that a frame is read as it was laid, and that what is read is laid as the very bytes, walked: it answers true and turns nothing that was there. Texts have at most as many bytes as a text may have. -/
import Derived.Test.YtioeidhblbfgmaaGreatY8
import Derived.Deep.QuietTactic
import Derived.BigQuiet
import Derived.Laws.ResultCell

namespace Go.Proofs.YtioeidhblbfgmaaGreat.Frm
open Go.ChangeShapes Go.WideShapes Go.ChangeAt Go.RowKit
set_option linter.unusedVariables false
set_option maxRecDepth 100000
set_option linter.unusedSimpArgs false

theorem at_get (s : ByteArray) (i : Nat) (h : i < s.size) : at_ s.data.toList i = s[i] := by
  unfold at_
  rw [List.getD_eq_getElem?_getD, List.getElem?_eq_getElem (by simpa using h)]
  rfl
theorem toList_size (s : ByteArray) : s.data.toList.length = s.size := by simp
theorem extract_list (s : ByteArray) (a e : Nat) : (s.extract a e).data.toList = (s.data.toList.drop a).take (e - a) := by
  simp [ByteArray.data_extract, Array.toList_extract, List.extract_eq_take_drop]
theorem check_nil (s : ByteArray) (w : World) :
    Calls Tryz.prog 70 #[.pointer none, .string s] w fun e w' => e = .returned (.int .i64 1) ∧ w' = w := by
  go_enter Tryz.func70, Tryz.ntmps70
  go_wp2
  go_ret
  exact ⟨rfl, rfl⟩
theorem turn_drewN {b n : Nat} {w w' : World} (h : Turn b w w') : Turn b w (w'.drewN n) := h
theorem bne_u8 {a : UInt8} (h : a ≠ 1) : ((a.toNat : Int) != 1) = true := by
  rw [bne_iff_ne]
  intro e
  apply h
  apply UInt8.toNat_inj.1
  show a.toNat = 1
  omega
set_option maxHeartbeats 1600000 in
set_option maxRecDepth 100000 in
theorem check_any (c b : Nat) (s : ByteArray) (hs : s.size ≤ 140737488355328) (w : World) (h : Codec c b w) :
    Calls Tryz.prog 70 #[.pointer (some ⟨c, 0, none⟩), .string s] w fun e w' => e = .returned (.int .i64 (why s.data.toList : Int)) ∧ Turn b w w' := by
  obtain ⟨r, hr⟩ : ∃ r, r = why s.data.toList := ⟨_, rfl⟩
  rw [← hr]
  have HC : Hid (Codec c b w) := h
  have T0 : Turn b w w := Turn.refl b w
  clear h
  unfold why at hr
  rw [toList_size] at hr
  by_cases h1 : s.size < 12
  · rw [if_pos h1] at hr
    subst hr
    have h1i : (s.size : Int) < 12 := by omega
    clear h1 hs
    go_enter Tryz.func70, Tryz.ntmps70
    go_wp2
    go_ret
    exact ⟨rfl, T0⟩
  rw [if_neg h1] at hr
  have h1i : ¬ (s.size : Int) < 12 := by omega
  have i0 : 0 < s.size := by omega
  have i1 : 1 < s.size := by omega
  have i2 : 2 < s.size := by omega
  have i3 : 3 < s.size := by omega
  have j1 : (1 : Int) < (s.size : Int) := by omega
  have j2 : (2 : Int) < (s.size : Int) := by omega
  have j3 : (3 : Int) < (s.size : Int) := by omega
  rw [at_get s 0 i0, at_get s 1 i1, at_get s 2 i2, at_get s 3 i3] at hr
  by_cases h2 : s[0] = 1
  · have hb0 : ((s[0].toNat : Int) != 1) = false := by rw [h2]; rfl
    have hm := mayBe_any s[1] s[2] s[3]
    by_cases h3 : fit s[1] s[2] s[3]
    · rw [if_neg (Decidable.not_not.2 ⟨h2, h3⟩)] at hr
      rw [decide_eq_true h3] at hm
      clear h2 h3
      have hrw := readWord_any s 4 hs (by omega)
      have hn32 := word4_lt s.data.toList 4
      have HW : Hid (∀ p, word4 s.data.toList p < 4294967296) := fun p => word4_lt _ p
      have HR : Hid (∀ p, p + 4 ≤ s.size → ∀ w, Calls Tryz.prog 95 #[.string s, .int .i64 (p : Int)] w fun e w' => e = .returned (.int .u32 (word4 s.data.toList p : Int)) ∧ w' = w) := fun p hp w => readWord_any s p hs hp w
      generalize hn : word4 s.data.toList 4 = n at *
      clear hn
      by_cases h4 : 1048576 < n
      · rw [if_pos h4] at hr
        subst hr
        have h4i : (1048576 : Int) < (n : Int) := by omega
        clear h1 h4 HR HW
        go_enter Tryz.func70, Tryz.ntmps70
        go_wp2
        go_quiet ((go_at_call 48; exact Calls.quiet_of_same (hm _)))
        clear hm
        go_wp2_with (go_at_call 95; refine (hrw _).mono ?_; rintro e w ⟨rfl, rfl⟩)
        go_ret
        exact ⟨rfl, T0⟩
      rw [if_neg h4] at hr
      have h4i : ¬ (1048576 : Int) < (n : Int) := by omega
      have hnw : IntKind.i64.wrap (n : Int) = (n : Int) := by rw [IntKind.wrap_i64]; omega
      by_cases h5 : s.size < 12 + n
      · rw [if_pos h5] at hr
        subst hr
        have h5i : (s.size : Int) < 8 + (n : Int) + 4 := by omega
        clear h1 h4 h5 HR HW
        go_enter Tryz.func70, Tryz.ntmps70
        go_wp2
        go_quiet ((go_at_call 48; exact Calls.quiet_of_same (hm _)))
        clear hm
        go_wp2_with (go_at_call 95; refine (hrw _).mono ?_; rintro e w ⟨rfl, rfl⟩)
        go_ret
        exact ⟨rfl, T0⟩
      rw [if_neg h5] at hr
      have h5i : ¬ (s.size : Int) < 8 + (n : Int) + 4 := by omega
      by_cases h6 : 12 + n < s.size
      · rw [if_pos h6] at hr
        subst hr
        have h6i : 8 + (n : Int) + 4 < (s.size : Int) := by omega
        clear h1 h4 h5 h6 HR HW
        go_enter Tryz.func70, Tryz.ntmps70
        go_wp2
        go_quiet ((go_at_call 48; exact Calls.quiet_of_same (hm _)))
        clear hm
        go_wp2_with (go_at_call 95; refine (hrw _).mono ?_; rintro e w ⟨rfl, rfl⟩)
        go_ret
        exact ⟨rfl, T0⟩
      rw [if_neg h6] at hr
      have h6i : ¬ 8 + (n : Int) + 4 < (s.size : Int) := by omega
      have hrw2 := HR.out (8 + n) (by omega)
      rw [show ((8 + n : Nat) : Int) = 8 + (n : Int) by omega] at hrw2
      have hxs : (s.extract 0 (8 + n)).data.toList = s.data.toList.take (8 + n) := by rw [extract_list]; simp
      have hsum := fun w hc => sum_t c b (s.extract 0 (8 + n)) (by simp [maxLen]; omega) w hc
      rw [hxs] at hsum
      have hsl : ∀ w, (Instr.slice 9 (.string s) none (some (.int .i64 (8 + (n : Int)))) none).run Tryz.prog w = .ok (.string (s.extract 0 (8 + n))) w := fun w => by
        rw [run_slice_string_to_if (P := Tryz.prog) w 9 s .i64 (8 + (n : Int)) Tryz.underlying9, if_pos ⟨by omega, by omega⟩]
        rw [show (8 + (n : Int)).toNat = 8 + n by omega]
      generalize s.extract 0 (8 + n) = S8 at *
      generalize more 0 (s.data.toList.take (8 + n)) = M at *
      generalize word4 s.data.toList (8 + n) = V at *
      have HR2 : Hid (r = if V ≠ M then 5 else 0) := hr
      clear hr h1 h4 h5 h6 HR HW
      have hcc : Hid (∀ w', Turn b w w' → w'.cell? ⟨c, 0, none⟩ = some (.pointer (some ⟨b, 0, none⟩))) := fun w' g => (codec_now HC.out g).2.2.1
      by_cases h7 : V = M
      · have h7i : ((V : Int) != (M : Int)) = false := by rw [h7]; simp
        have e := HR2.out
        rw [if_neg (fun hh => hh h7)] at e
        subst e
        clear HR2 h7
        go_enter Tryz.func70, Tryz.ntmps70
        go_wp2
        go_quiet ((go_at_call 48; exact Calls.quiet_of_same (hm _)))
        clear hm
        go_wp2_with (go_at_call 95; refine (hrw _).mono ?_; rintro e w ⟨rfl, rfl⟩)
        clear hrw
        go_region_held3 (fun w' => w'.cell? ⟨c, 0, none⟩ = some (.pointer (some ⟨b, 0, none⟩))) (exact hcc.out _ (by repeat (first | with_reducible assumption | with_reducible apply turn_drew | with_reducible apply turn_drewN | with_reducible apply turn_alloc))) (first
          | (go_at_call 95; refine (hrw2 _).mono ?_; rintro e w2 ⟨rfl, rfl⟩)
          | (go_at_call 51; refine (hsum _ (codec_now HC.out (by repeat (first | with_reducible assumption | with_reducible apply turn_drew | with_reducible apply turn_drewN | with_reducible apply turn_alloc)))).mono ?_; rintro e w3 ⟨rfl, H3⟩; have T3 : Turn b w w3 := Turn.trans (by repeat (first | with_reducible assumption | with_reducible apply turn_drew | with_reducible apply turn_drewN | with_reducible apply turn_alloc)) H3))
        all_goals (clear hrw2 hsum; go_wp2_with fail; go_ret; exact ⟨rfl, by with_reducible assumption⟩)
      · have h7i : ((V : Int) != (M : Int)) = true := by rw [bne_iff_ne]; omega
        have e := HR2.out
        rw [if_pos h7] at e
        subst e
        clear HR2 h7
        go_enter Tryz.func70, Tryz.ntmps70
        go_wp2
        go_quiet ((go_at_call 48; exact Calls.quiet_of_same (hm _)))
        clear hm
        go_wp2_with (go_at_call 95; refine (hrw _).mono ?_; rintro e w ⟨rfl, rfl⟩)
        clear hrw
        go_region_held3 (fun w' => w'.cell? ⟨c, 0, none⟩ = some (.pointer (some ⟨b, 0, none⟩))) (exact hcc.out _ (by repeat (first | with_reducible assumption | with_reducible apply turn_drew | with_reducible apply turn_drewN | with_reducible apply turn_alloc))) (first
          | (go_at_call 95; refine (hrw2 _).mono ?_; rintro e w2 ⟨rfl, rfl⟩)
          | (go_at_call 51; refine (hsum _ (codec_now HC.out (by repeat (first | with_reducible assumption | with_reducible apply turn_drew | with_reducible apply turn_drewN | with_reducible apply turn_alloc)))).mono ?_; rintro e w3 ⟨rfl, H3⟩; have T3 : Turn b w w3 := Turn.trans (by repeat (first | with_reducible assumption | with_reducible apply turn_drew | with_reducible apply turn_drewN | with_reducible apply turn_alloc)) H3))
        all_goals (clear hrw2 hsum; go_wp2_with fail; go_ret; exact ⟨rfl, by with_reducible assumption⟩)
    · rw [if_pos (fun hh => h3 hh.2)] at hr
      subst hr
      rw [decide_eq_false h3] at hm
      clear h2 h3 h1
      go_enter Tryz.func70, Tryz.ntmps70
      go_wp2
      go_quiet ((go_at_call 48; exact Calls.quiet_of_same (hm _)))
      go_wp2
      go_ret
      exact ⟨rfl, T0⟩
  · rw [if_pos (fun hh => h2 hh.1)] at hr
    subst hr
    have hb0 := bne_u8 h2
    clear h2 h1
    go_enter Tryz.func70, Tryz.ntmps70
    go_wp2
    go_quiet (fail)
    go_wp2
    go_ret
    exact ⟨rfl, T0⟩
end Go.Proofs.YtioeidhblbfgmaaGreat.Frm


namespace Go.Proofs.YtioeidhblbfgmaaGreat.Frm
open Go.ChangeShapes Go.WideShapes Go.ChangeAt Go.RowKit
set_option linter.unusedVariables false
set_option maxRecDepth 100000
set_option linter.unusedSimpArgs false

def bodyOf (s : ByteArray) : ByteArray := s.extract 8 (s.size - 4)
def decV (s : ByteArray) : Value :=
  if why s.data.toList = 0 then frameV (at_ s.data.toList 1) (at_ s.data.toList 2) (at_ s.data.toList 3) (bodyOf s) else frameV 0 0 0 ⟨#[]⟩
theorem turn_set {b X : Nat} {u w : World} (h : Turn b u w) (hX : u.heap.size ≤ X) (o : Nat) (v : Value) : Turn b u (w.setCell ⟨X, o, none⟩ v) := by
  have hz : (w.setCell ⟨X, o, none⟩ v).heap.size = w.heap.size := by simp [World.setCell]
  refine ⟨h.1, h.2.1, by rw [hz]; exact h.2.2.1, fun k hk hn => (Below.heap_setCell _ _ _ _ (by show k ≠ X; omega)).trans (h.2.2.2.1 k hk hn), fun hb ht => ?_⟩
  exact tab_block (h.2.2.2.2 hb ht) (Below.heap_setCell _ _ _ _ (by show b ≠ X; omega))
theorem block_cells {X t : Nat} {w : World} {a0 a1 a2 a3 : Value} (h : w.heap[X]? = some (.cells #[a0, a1, a2, a3] t)) :
    w.cell? ⟨X, 0, none⟩ = some a0 ∧ w.cell? ⟨X, 1, none⟩ = some a1 ∧ w.cell? ⟨X, 2, none⟩ = some a2 ∧ w.cell? ⟨X, 3, none⟩ = some a3 ∧ ∀ j, w.frozen? ⟨X, j, none⟩ = false := by
  refine ⟨?_, ?_, ?_, ?_, fun j => ?_⟩
  · unfold World.cell?; rw [h]; rfl
  · unfold World.cell?; rw [h]; rfl
  · unfold World.cell?; rw [h]; rfl
  · unfold World.cell?; rw [h]; rfl
  · unfold World.frozen?; rw [h]; simp
def set4 (w : World) (X : Nat) (v0 v1 v2 v3 : Value) : World := (((w.setCell ⟨X, 0, none⟩ v0).setCell ⟨X, 1, none⟩ v1).setCell ⟨X, 2, none⟩ v2).setCell ⟨X, 3, none⟩ v3
theorem set4_cells {X : Nat} {w : World} {a0 a1 a2 a3 : Value} (c0 : w.cell? ⟨X, 0, none⟩ = some a0) (c1 : w.cell? ⟨X, 1, none⟩ = some a1) (c2 : w.cell? ⟨X, 2, none⟩ = some a2) (c3 : w.cell? ⟨X, 3, none⟩ = some a3) (v0 v1 v2 v3 : Value) :
    (set4 w X v0 v1 v2 v3).cell? ⟨X, 0, none⟩ = some v0 ∧ (set4 w X v0 v1 v2 v3).cell? ⟨X, 1, none⟩ = some v1 ∧ (set4 w X v0 v1 v2 v3).cell? ⟨X, 2, none⟩ = some v2 ∧ (set4 w X v0 v1 v2 v3).cell? ⟨X, 3, none⟩ = some v3 := by
  unfold set4
  have o : ∀ (u : World) (i j : Nat) (v : Value), i ≠ j → (u.setCell ⟨X, i, none⟩ v).cell? ⟨X, j, none⟩ = u.cell? ⟨X, j, none⟩ := fun u i j v h => World.cell?_setCell_other u ⟨X, i, none⟩ ⟨X, j, none⟩ v (by simp <;> omega)
  refine ⟨?_, ?_, ?_, ?_⟩
  · rw [o _ 3 0 _ (by omega), o _ 2 0 _ (by omega), o _ 1 0 _ (by omega)]; exact World.cell?_setCell_same _ _ _ c0
  · rw [o _ 3 1 _ (by omega), o _ 2 1 _ (by omega)]; exact World.cell?_setCell_same _ _ _ ((o _ 0 1 _ (by omega)).trans c1)
  · rw [o _ 3 2 _ (by omega)]; exact World.cell?_setCell_same _ _ _ (((o _ 1 2 _ (by omega)).trans (o _ 0 2 _ (by omega))).trans c2)
  · exact World.cell?_setCell_same _ _ _ ((((o _ 2 3 _ (by omega)).trans (o _ 1 3 _ (by omega))).trans (o _ 0 3 _ (by omega))).trans c3)
theorem set4_turn {b X : Nat} {u w : World} (h : Turn b u w) (hX : u.heap.size ≤ X) (v0 v1 v2 v3 : Value) : Turn b u (set4 w X v0 v1 v2 v3) :=
  turn_set (turn_set (turn_set (turn_set h hX _ _) hX _ _) hX _ _) hX _ _
theorem load_var {X : Nat} {w : World} {v0 v1 v2 v3 : Value} (c0 : w.cell? ⟨X, 0, none⟩ = some v0) (c1 : w.cell? ⟨X, 1, none⟩ = some v1) (c2 : w.cell? ⟨X, 2, none⟩ = some v2) (c3 : w.cell? ⟨X, 3, none⟩ = some v3) :
    (loadVar 46 ⟨X, 0, none⟩).run Tryz.prog w = .ok (.agg #[v0, v1, v2, v3]) w := by
  simp [go_sem, loadVar, c0, c1, c2, c3]
theorem res_cell {fn : Func} {p u : Tmp} (h : fn.results = #[.cell p 46, .tmp u]) (tmps : Array Value) {w : World} {X : Nat} {r v0 v1 v2 v3 : Value} (hp : tmps.getD p undef = .pointer (some ⟨X, 0, none⟩)) (hu : tmps.getD u undef = r)
    (c0 : w.cell? ⟨X, 0, none⟩ = some v0) (c1 : w.cell? ⟨X, 1, none⟩ = some v1) (c2 : w.cell? ⟨X, 2, none⟩ = some v2) (c3 : w.cell? ⟨X, 3, none⟩ = some v3) :
    (results fn tmps).run Tryz.prog w = .ok (.tuple #[.agg #[v0, v1, v2, v3], r]) w := by
  rw [results_cell_tmp h, hp, hu]
  show ((loadVar 46 ⟨X, 0, none⟩).run Tryz.prog w).andThen _ = _
  rw [load_var c0 c1 c2 c3]
  rfl
theorem zero23 (w : World) : (zeroValue 46).run Tryz.prog w = .ok (.agg #[.int .u8 0, .int .u8 0, .int .u8 0, .string ⟨#[]⟩]) w := by kernel_rfl
set_option maxHeartbeats 1600000 in
set_option maxRecDepth 100000 in
theorem decode_bad (c b : Nat) (s : ByteArray) (hs : s.size ≤ 140737488355328) (w : World) (h : Codec c b w) (hw : why s.data.toList ≠ 0) :
    Calls Tryz.prog 24 #[.pointer (some ⟨c, 0, none⟩), .string s] w fun e w' => e = .returned (.tuple #[decV s, .int .i64 (why s.data.toList : Int)]) ∧ Turn b w w' := by
  have e : decV s = frameV 0 0 0 ⟨#[]⟩ := by unfold decV; rw [if_neg hw]
  rw [e]
  have hk := fun w h => check_any c b s hs w h
  generalize why s.data.toList = r at *
  have hri : ((r : Int) != 0) = true := by rw [bne_iff_ne]; omega
  have HW : Hid (Codec c b (w.alloc (.cells #[.int .u8 0, .int .u8 0, .int .u8 0, .string ⟨#[]⟩] 46))) := codec_kept h (kept_below ((Below.refl _ w).alloc (Nat.le_refl _) _))
  have hz := zero23
  have HL : Hid (b < w.heap.size) := h.2.1
  clear h e hw
  go_enter Tryz.func24, Tryz.ntmps24
  go_wp2_with fail
  refine (hk _ HW.out).mono ?_
  rintro e w1 ⟨rfl, H1⟩
  have T1 : Turn b w w1 := (turn_below ((Below.refl _ w).alloc (Nat.le_refl _) _)).trans H1
  have hblk : w1.heap[w.heap.size]? = some (.cells #[.int .u8 0, .int .u8 0, .int .u8 0, .string ⟨#[]⟩] 46) := by
    rw [H1.2.2.2.1 _ (by simp) (by have := HL.out; omega)]
    exact alloc_block w _
  obtain ⟨c0, c1, c2, c3, hfz⟩ := block_cells hblk
  have HX : Hid (w.heap.size ≤ w.heap.size) := Nat.le_refl _
  generalize hX : w.heap.size = X at c0 c1 c2 c3 hfz
  have HX : Hid (w.heap.size ≤ X) := Nat.le_of_eq hX
  clear hblk H1 hk HW
  clear hX
  go_wp2_with fail
  have Tf := set4_turn T1 HX.out (.int .u8 0) (.int .u8 0) (.int .u8 0) (.string ⟨#[]⟩)
  obtain ⟨k0, k1, k2, k3⟩ := set4_cells c0 c1 c2 c3 (.int .u8 0) (.int .u8 0) (.int .u8 0) (.string ⟨#[]⟩)
  unfold set4 at Tf k0 k1 k2 k3
  exact bodyPost_ret (res_cell Tryz.results24 _ rfl rfl k0 k1 k2 k3) rfl ⟨rfl, Tf⟩
theorem slice_body (s : ByteArray) (h : 12 ≤ s.size) (w : World) :
    (Instr.slice 9 (.string s) (some (.int .i64 8)) (some (.int .i64 ((s.size : Int) - 4))) none).run Tryz.prog w = .ok (.string (bodyOf s)) w := by
  have := run_slice_string (P := Tryz.prog) w 9 s .i64 .i64 8 ((s.size : Int) - 4) Tryz.underlying9 (by omega) (by omega) (by omega)
  rw [this]
  unfold bodyOf
  rw [show ((s.size : Int) - 4).toNat = s.size - 4 by omega]
  rfl
set_option maxHeartbeats 1600000 in
set_option maxRecDepth 100000 in
theorem decode_good (c b : Nat) (s : ByteArray) (hs : s.size ≤ 140737488355328) (w : World) (h : Codec c b w) (hw : why s.data.toList = 0) :
    Calls Tryz.prog 24 #[.pointer (some ⟨c, 0, none⟩), .string s] w fun e w' => e = .returned (.tuple #[decV s, .int .i64 (why s.data.toList : Int)]) ∧ Turn b w w' := by
  have h12 : 12 ≤ s.size := by have := (why_zero _ hw).1; rw [toList_size] at this; exact this
  have e : decV s = frameV s[1] s[2] s[3] (bodyOf s) := by unfold decV; rw [if_pos hw, at_get s 1 (by omega), at_get s 2 (by omega), at_get s 3 (by omega)]
  rw [e]
  have hk := fun w h => check_any c b s hs w h
  rw [hw] at hk ⊢
  have hsl := slice_body s h12
  have hbs : (bodyOf s).size ≤ 140737488355328 := by unfold bodyOf; simp; omega
  have hcl := fun w => clone_any (bodyOf s) hbs w
  have j1 : (1 : Int) < (s.size : Int) := by omega
  have j2 : (2 : Int) < (s.size : Int) := by omega
  have j3 : (3 : Int) < (s.size : Int) := by omega
  generalize bodyOf s = B at *
  have HW : Hid (Codec c b (w.alloc (.cells #[.int .u8 0, .int .u8 0, .int .u8 0, .string ⟨#[]⟩] 46))) := codec_kept h (kept_below ((Below.refl _ w).alloc (Nat.le_refl _) _))
  have hz := zero23
  have HL : Hid (b < w.heap.size) := h.2.1
  clear h e hw hbs
  unfold frameV
  go_enter Tryz.func24, Tryz.ntmps24
  go_wp2_with fail
  refine (hk _ HW.out).mono ?_
  rintro e w1 ⟨rfl, H1⟩
  have T1 : Turn b w w1 := (turn_below ((Below.refl _ w).alloc (Nat.le_refl _) _)).trans H1
  have hblk : w1.heap[w.heap.size]? = some (.cells #[.int .u8 0, .int .u8 0, .int .u8 0, .string ⟨#[]⟩] 46) := by
    rw [H1.2.2.2.1 _ (by simp) (by have := HL.out; omega)]
    exact alloc_block w _
  have HX1 : Hid (w.heap.size < w1.heap.size) := by have := H1.2.2.1; simp at this; show _ < _; omega
  clear H1 hk HW
  go_wp2_with fail
  refine (hcl _).mono ?_
  rintro e w2 ⟨rfl, H2⟩
  have T2 : Turn b w w2 := turn_step T1 H2
  have hblk2 : w2.heap[w.heap.size]? = some (.cells #[.int .u8 0, .int .u8 0, .int .u8 0, .string ⟨#[]⟩] 46) := by
    rw [H2.block _ HX1.out]; exact hblk
  obtain ⟨c0, c1, c2, c3, hfz⟩ := block_cells hblk2
  generalize hX : w.heap.size = X at c0 c1 c2 c3 hfz
  have HX : Hid (w.heap.size ≤ X) := Nat.le_of_eq hX
  clear hblk hblk2 H2 T1 HX1 hcl hsl hX
  go_wp2_with fail
  have Tf := turn_drew (set4_turn T2 HX.out (.int .u8 (s[1].toNat : Int)) (.int .u8 (s[2].toNat : Int)) (.int .u8 (s[3].toNat : Int)) (.string B))
  obtain ⟨k0, k1, k2, k3⟩ := set4_cells c0 c1 c2 c3 (.int .u8 (s[1].toNat : Int)) (.int .u8 (s[2].toNat : Int)) (.int .u8 (s[3].toNat : Int)) (.string B)
  have KK : Hid ((set4 w2 X (.int .u8 (s[1].toNat : Int)) (.int .u8 (s[2].toNat : Int)) (.int .u8 (s[3].toNat : Int)) (.string B)).drew.cell? ⟨X, 0, none⟩ = some (.int .u8 (s[1].toNat : Int)) ∧ (set4 w2 X (.int .u8 (s[1].toNat : Int)) (.int .u8 (s[2].toNat : Int)) (.int .u8 (s[3].toNat : Int)) (.string B)).drew.cell? ⟨X, 1, none⟩ = some (.int .u8 (s[2].toNat : Int)) ∧ (set4 w2 X (.int .u8 (s[1].toNat : Int)) (.int .u8 (s[2].toNat : Int)) (.int .u8 (s[3].toNat : Int)) (.string B)).drew.cell? ⟨X, 2, none⟩ = some (.int .u8 (s[3].toNat : Int)) ∧ (set4 w2 X (.int .u8 (s[1].toNat : Int)) (.int .u8 (s[2].toNat : Int)) (.int .u8 (s[3].toNat : Int)) (.string B)).drew.cell? ⟨X, 3, none⟩ = some (.string B)) := ⟨k0, k1, k2, k3⟩
  have TF : Hid (Turn b w (set4 w2 X (.int .u8 (s[1].toNat : Int)) (.int .u8 (s[2].toNat : Int)) (.int .u8 (s[3].toNat : Int)) (.string B)).drew) := Tf
  clear Tf k0 k1 k2 k3
  unfold set4 at KK TF
  go_region
  obtain ⟨k0, k1, k2, k3⟩ := KK.out
  go_wp2_with fail
  exact bodyPost_ret (res_cell Tryz.results24 _ rfl rfl k0 k1 k2 k3) rfl ⟨rfl, TF.out⟩
theorem decode_any (c b : Nat) (s : ByteArray) (hs : s.size ≤ 140737488355328) (w : World) (h : Codec c b w) :
    Calls Tryz.prog 24 #[.pointer (some ⟨c, 0, none⟩), .string s] w fun e w' => e = .returned (.tuple #[decV s, .int .i64 (why s.data.toList : Int)]) ∧ Turn b w w' := by
  by_cases hw : why s.data.toList = 0
  · exact decode_good c b s hs w h hw
  · exact decode_bad c b s hs w h hw
theorem decode_nil (s : ByteArray) (w : World) :
    Calls Tryz.prog 24 #[.pointer none, .string s] w fun e w' => e = .returned (.tuple #[frameV 0 0 0 ⟨#[]⟩, .int .i64 1]) ∧ Kept w w' := by
  have hz := zero23
  have hk := check_nil s
  have hblk := alloc_block w (.cells #[.int .u8 0, .int .u8 0, .int .u8 0, .string ⟨#[]⟩] 46)
  have K1 : Hid (Kept w (w.alloc (.cells #[.int .u8 0, .int .u8 0, .int .u8 0, .string ⟨#[]⟩] 46))) := kept_below ((Below.refl _ w).alloc (Nat.le_refl _) _)
  obtain ⟨c0, c1, c2, c3, hfz⟩ := block_cells hblk
  clear hblk
  unfold frameV
  go_enter Tryz.func24, Tryz.ntmps24
  go_wp2_with fail
  refine (hk _).mono ?_
  rintro e w1 ⟨rfl, rfl⟩
  obtain ⟨k0, k1, k2, k3⟩ := set4_cells c0 c1 c2 c3 (.int .u8 0) (.int .u8 0) (.int .u8 0) (.string ⟨#[]⟩)
  have KF : Hid (Kept w (set4 (w.alloc (.cells #[.int .u8 0, .int .u8 0, .int .u8 0, .string ⟨#[]⟩] 46)) w.heap.size (.int .u8 0) (.int .u8 0) (.int .u8 0) (.string ⟨#[]⟩))) := by
    have B0 : Below w.heap.size w (w.alloc (.cells #[.int .u8 0, .int .u8 0, .int .u8 0, .string ⟨#[]⟩] 46)) := (Below.refl _ w).alloc (Nat.le_refl _) _
    exact kept_below ((((B0.setCell (Nat.le_refl _) _).setCell (Nat.le_refl _) _).setCell (Nat.le_refl _) _).setCell (Nat.le_refl _) _)
  clear K1 hk
  generalize w.alloc (.cells #[.int .u8 0, .int .u8 0, .int .u8 0, .string ⟨#[]⟩] 46) = w1 at *
  generalize hX : w.heap.size = X at *
  clear hX
  unfold set4 at k0 k1 k2 k3 KF
  go_wp2_with fail
  exact bodyPost_ret (res_cell Tryz.results24 _ rfl rfl k0 k1 k2 k3) rfl ⟨rfl, KF.out⟩
end Go.Proofs.YtioeidhblbfgmaaGreat.Frm


namespace Go.Proofs.YtioeidhblbfgmaaGreat.Frm
open Go.ChangeShapes Go.WideShapes Go.ChangeAt Go.RowKit
set_option linter.unusedVariables false
set_option maxRecDepth 100000
set_option linter.unusedSimpArgs false

def dec (s : ByteArray) : UInt8 × UInt8 × UInt8 × ByteArray :=
  if why s.data.toList = 0 then (at_ s.data.toList 1, at_ s.data.toList 2, at_ s.data.toList 3, bodyOf s) else (0, 0, 0, ⟨#[]⟩)
theorem decV_dec (s : ByteArray) : decV s = frameV (dec s).1 (dec s).2.1 (dec s).2.2.1 (dec s).2.2.2 := by
  unfold decV dec
  split <;> rfl
/- Frames in memory stay. -/
def Bx (w w' : World) : Prop := ∀ X k f t s, Box X k f t s w → Box X k f t s w'
theorem bx_kept {w w' : World} (h : Kept w w') : Bx w w' := fun _ _ _ _ _ hB => box_kept hB h
theorem bx_trans {u v w : World} (h : Bx u v) (k : Bx v w) : Bx u w := fun _ _ _ _ _ hB => k _ _ _ _ _ (h _ _ _ _ _ hB)
theorem st_alloc {W : World} {cs : List (Nat × Nat)} {w : World} {o : Obj} (h : St W cs w) : St W cs (w.alloc o) := st_below h ((Below.refl _ w).alloc (Nat.le_refl _) _)
theorem bx_alloc {w : World} {o : Obj} : Bx w (w.alloc o) := bx_kept (kept_below ((Below.refl _ w).alloc (Nat.le_refl _) _))
theorem encode_in (W : World) (cs : List (Nat × Nat)) (c b : Nat) (hm : (c, b) ∈ cs) (k f t : UInt8) (s : ByteArray) (w : World) (h : St W cs w) :
    Calls Tryz.prog 20 #[.pointer (some ⟨c, 0, none⟩), .agg #[.int .u8 (k.toNat : Int), .int .u8 (f.toNat : Int), .int .u8 (t.toNat : Int), .string s]] w fun e w' => e = .returned (.tuple #[.string (encS k f t s).1, .int .i64 ((encS k f t s).2 : Int)]) ∧ St W cs w' ∧ Bx w w' :=
  (encode_any c b k f t s w (h.2 c b hm).2).mono fun _ _ ⟨he, hT⟩ => ⟨he, st_turn h hm hT, fun _ _ _ _ _ hB => box_turn hB (h.2 c b hm).2.2.2.2 hT⟩
theorem decode_in (W : World) (cs : List (Nat × Nat)) (c b : Nat) (hm : (c, b) ∈ cs) (s : ByteArray) (hs : s.size ≤ 140737488355328) (w : World) (h : St W cs w) :
    Calls Tryz.prog 24 #[.pointer (some ⟨c, 0, none⟩), .string s] w fun e w' => e = .returned (.tuple #[.agg #[.int .u8 ((dec s).1.toNat : Int), .int .u8 ((dec s).2.1.toNat : Int), .int .u8 ((dec s).2.2.1.toNat : Int), .string (dec s).2.2.2], .int .i64 (why s.data.toList : Int)]) ∧ St W cs w' ∧ Bx w w' := by
  refine (decode_any c b s hs w (h.2 c b hm).2).mono fun _ _ ⟨he, hT⟩ => ⟨?_, st_turn h hm hT, fun _ _ _ _ _ hB => box_turn hB (h.2 c b hm).2.2.2.2 hT⟩
  rw [he, decV_dec]; rfl
theorem new_in (W : World) (cs : List (Nat × Nat)) (w : World) (h : St W cs w) :
    Calls Tryz.prog 18 #[] w fun e w' => ∃ c b, e = .returned (.pointer (some ⟨c, 0, none⟩)) ∧ St W ((c, b) :: cs) w' ∧ Bx w w' :=
  (New_in W cs w h).mono fun _ _ ⟨c, b, he, hS, hK⟩ => ⟨c, b, he, hS, bx_kept hK⟩

theorem more_ab : more 0 [1, 5, 1, 2, 0, 0, 0, 2, 97, 98] = 3241466188 := by decide +kernel
theorem lay_ab : lay 5 1 2 [97, 98] = [1, 5, 1, 2, 0, 0, 0, 2, 97, 98, 193, 52, 217, 76] := by
  have e : front 5 1 2 [97, 98] = [1, 5, 1, 2, 0, 0, 0, 2, 97, 98] := by decide +kernel
  rw [lay, e, more_ab]
  decide +kernel
theorem fit_ab : fit 5 1 2 := by decide +kernel
theorem enc_ab : encS 5 1 2 ⟨#[97, 98]⟩ = (⟨#[1, 5, 1, 2, 0, 0, 0, 2, 97, 98, 193, 52, 217, 76]⟩, 0) := by
  unfold encS
  rw [if_neg (by decide), if_pos fit_ab]
  have e : lay 5 1 2 (⟨#[97, 98]⟩ : ByteArray).data.toList = [1, 5, 1, 2, 0, 0, 0, 2, 97, 98, 193, 52, 217, 76] := lay_ab
  rw [e]
theorem why_ab : why (⟨#[1, 5, 1, 2, 0, 0, 0, 2, 97, 98, 193, 52, 217, 76]⟩ : ByteArray).data.toList = 0 := by
  have := why_lay 5 1 2 [97, 98] fit_ab (by decide)
  rw [lay_ab] at this
  exact this
theorem dec_ab : dec ⟨#[1, 5, 1, 2, 0, 0, 0, 2, 97, 98, 193, 52, 217, 76]⟩ = (5, 1, 2, ⟨#[97, 98]⟩) := by
  unfold dec
  rw [if_pos why_ab]
  have : bodyOf ⟨#[1, 5, 1, 2, 0, 0, 0, 2, 97, 98, 193, 52, 217, 76]⟩ = ⟨#[97, 98]⟩ := by
    unfold bodyOf
    apply ByteArray.ext
    decide +kernel
  rw [this]
  rfl
theorem why_eleven : why (⟨#[49, 50, 51, 52, 53, 54, 55, 56, 57, 48, 49]⟩ : ByteArray).data.toList = 2 := by decide +kernel
theorem dec_eleven : dec ⟨#[49, 50, 51, 52, 53, 54, 55, 56, 57, 48, 49]⟩ = (0, 0, 0, ⟨#[]⟩) := by
  unfold dec
  rw [why_eleven]
  rfl
theorem encode_ab (W : World) (cs : List (Nat × Nat)) (c b : Nat) (hm : (c, b) ∈ cs) (w : World) (h : St W cs w) :
    Calls Tryz.prog 20 #[.pointer (some ⟨c, 0, none⟩), .agg #[.int .u8 5, .int .u8 1, .int .u8 2, .string ⟨#[97, 98]⟩]] w fun e w' => e = .returned (.tuple #[.string ⟨#[1, 5, 1, 2, 0, 0, 0, 2, 97, 98, 193, 52, 217, 76]⟩, .int .i64 0]) ∧ St W cs w' ∧ Bx w w' := by
  have := encode_in W cs c b hm 5 1 2 ⟨#[97, 98]⟩ w h
  rw [enc_ab] at this
  exact this
theorem decode_ab (W : World) (cs : List (Nat × Nat)) (c b : Nat) (hm : (c, b) ∈ cs) (w : World) (h : St W cs w) :
    Calls Tryz.prog 24 #[.pointer (some ⟨c, 0, none⟩), .string ⟨#[1, 5, 1, 2, 0, 0, 0, 2, 97, 98, 193, 52, 217, 76]⟩] w fun e w' => e = .returned (.tuple #[.agg #[.int .u8 5, .int .u8 1, .int .u8 2, .string ⟨#[97, 98]⟩], .int .i64 0]) ∧ St W cs w' ∧ Bx w w' := by
  have := decode_in W cs c b hm ⟨#[1, 5, 1, 2, 0, 0, 0, 2, 97, 98, 193, 52, 217, 76]⟩ (by decide) w h
  rw [dec_ab, why_ab] at this
  exact this
theorem decode_eleven (W : World) (cs : List (Nat × Nat)) (c b : Nat) (hm : (c, b) ∈ cs) (w : World) (h : St W cs w) :
    Calls Tryz.prog 24 #[.pointer (some ⟨c, 0, none⟩), .string ⟨#[49, 50, 51, 52, 53, 54, 55, 56, 57, 48, 49]⟩] w fun e w' => e = .returned (.tuple #[.agg #[.int .u8 0, .int .u8 0, .int .u8 0, .string ⟨#[]⟩], .int .i64 2]) ∧ St W cs w' ∧ Bx w w' := by
  have := decode_in W cs c b hm ⟨#[49, 50, 51, 52, 53, 54, 55, 56, 57, 48, 49]⟩ (by decide) w h
  rw [dec_eleven, why_eleven] at this
  exact this
end Go.Proofs.YtioeidhblbfgmaaGreat.Frm


namespace Go.Proofs.YtioeidhblbfgmaaGreat.Frm
open Go.ChangeShapes Go.WideShapes Go.ChangeAt Go.RowKit
set_option linter.unusedVariables false
set_option maxRecDepth 100000
set_option linter.unusedSimpArgs false

theorem enc_ok (k f t : UInt8) (s : ByteArray) (h : (encS k f t s).2 = 0) : s.size ≤ 1048576 ∧ fit k f t ∧ (encS k f t s).1 = ⟨(lay k f t s.data.toList).toArray⟩ := by
  by_cases h1 : 1048576 < s.size
  · unfold encS at h; rw [if_pos h1] at h; exact absurd h (by decide)
  by_cases h2 : fit k f t
  · refine ⟨by omega, h2, ?_⟩
    unfold encS; rw [if_neg h1, if_pos h2]
  · unfold encS at h; rw [if_neg h1, if_neg h2] at h; exact absurd h (by decide)
theorem enc_of (k f t : UInt8) (s : ByteArray) (h1 : s.size ≤ 1048576) (h2 : fit k f t) : encS k f t s = (⟨(lay k f t s.data.toList).toArray⟩, 0) := by
  unfold encS; rw [if_neg (by omega), if_pos h2]
theorem bytes_ext {a b : ByteArray} (h : a.data.toList = b.data.toList) : a = b := by
  apply ByteArray.ext
  exact Array.toList_inj.1 h
/- What is laid is read. -/
theorem dec_enc (k f t : UInt8) (s : ByteArray) (h : (encS k f t s).2 = 0) : why (encS k f t s).1.data.toList = 0 ∧ dec (encS k f t s).1 = (k, f, t, s) := by
  obtain ⟨h1, h2, h3⟩ := enc_ok k f t s h
  rw [h3]
  have hl : s.data.toList.length ≤ 1048576 := by rw [toList_size]; exact h1
  have hw : why (⟨(lay k f t s.data.toList).toArray⟩ : ByteArray).data.toList = 0 := why_lay k f t _ h2 hl
  refine ⟨hw, ?_⟩
  obtain ⟨p1, p2, p3, p4⟩ := lay_parts k f t s.data.toList
  unfold dec
  rw [if_pos hw]
  have hb : bodyOf ⟨(lay k f t s.data.toList).toArray⟩ = s := by
    apply bytes_ext
    unfold bodyOf
    rw [extract_list]
    have hz : (⟨(lay k f t s.data.toList).toArray⟩ : ByteArray).size = (lay k f t s.data.toList).length := by simp [ByteArray.size]
    rw [hz]
    show List.take ((lay k f t s.data.toList).length - 4 - 8) (List.drop 8 (lay k f t s.data.toList)) = _
    rw [show (lay k f t s.data.toList).length - 4 - 8 = (lay k f t s.data.toList).length - 12 by omega, p4]
  rw [hb]
  show (at_ (lay k f t s.data.toList) 1, at_ (lay k f t s.data.toList) 2, at_ (lay k f t s.data.toList) 3, s) = _
  rw [p1, p2, p3]
/- What is read is laid. -/
theorem enc_dec (s : ByteArray) (h : why s.data.toList = 0) : encS (dec s).1 (dec s).2.1 (dec s).2.2.1 (dec s).2.2.2 = (s, 0) := by
  obtain ⟨h1, h2, h3, h4, h5, h6⟩ := why_zero _ h
  have e : dec s = (at_ s.data.toList 1, at_ s.data.toList 2, at_ s.data.toList 3, bodyOf s) := by unfold dec; rw [if_pos h]
  rw [e]
  have hb : (bodyOf s).data.toList = (s.data.toList.drop 8).take (word4 s.data.toList 4) := by
    unfold bodyOf
    rw [extract_list, ← body_take _ h5, toList_size]
    congr 1
  have hs : (bodyOf s).size = word4 s.data.toList 4 := by
    rw [← toList_size, hb, body_length _ h5]
  show encS (at_ s.data.toList 1) (at_ s.data.toList 2) (at_ s.data.toList 3) (bodyOf s) = (s, 0)
  rw [enc_of _ _ _ _ (by omega) h3, hb, h6]
end Go.Proofs.YtioeidhblbfgmaaGreat.Frm
