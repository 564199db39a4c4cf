/- Blocks of memory that are known whole, and what a call may turn: one block at most (Turn). No condition. Contracts of the program's put, Put and PutText: a number's bytes, a text's bytes. They turn nothing that was there. The number is below 2^62, the text has at most 2^47 bytes. Contracts of the program's Get and the reference's: the number at a place, the place behind it, the error. They turn nothing that was there. The text has at most 2^47 bytes. The contract of the library's strings.Clone, off the shelf: texts have at most 2^47 bytes. -/
import Derived.Test.YtioeidhblbfgmaaGreatY1
import Derived.Test.YtioeidhblbfgmaaGreatRows
import Derived.WalkKit
import Derived.ProofKit
import Derived.OpenShut
import Derived.Laws.MakeOwn
import Derived.Laws.ResultCell
import Derived.BigRegion
import Derived.Laws.IdiomStrings
import Derived.Shelf.Pu.Clone
import Derived.Lib.Walk

namespace Go.Proofs.YtioeidhblbfgmaaGreat
open Go.ChangeShapes Go.WideShapes Go.ChangeAt Go.RowKit
set_option linter.unusedVariables false
set_option maxRecDepth 100000
set_option linter.unusedSimpArgs false

theorem kept_below {w w' : World} (h : Below w.heap.size w w') : Kept w w' := kept_of h.os h.output h.size (fun i hi => h.block i hi)
theorem kept_alloc {W w : World} (h : Kept W w) (o : Obj) : Kept W (w.alloc o) := kept_trans h (kept_below ((Below.refl _ w).alloc (Nat.le_refl _) o))
theorem kept_set {W w : World} (h : Kept W w) {X : Nat} (hX : W.heap.size ≤ X) (o : Nat) (v : Value) : Kept W (w.setCell ⟨X, o, none⟩ v) :=
  kept_of (show w.os = W.os from kept_os h) (show w.output = W.output from kept_output h) (by simpa [World.setCell] using h.2) (fun i hi => (Below.heap_setCell _ _ _ _ (by show i ≠ X; omega)).trans (kept_block h hi))
theorem kept_drew {W w : World} (h : Kept W w) : Kept W w.drew := h

def At (w : World) (X : Nat) (cs : Array Value) (T : Nat) : Prop := w.heap[X]? = some (.cells cs T)
section
variable {w w' : World} {X Y T U : Nat} {cs ds : Array Value}
theorem at_lt (h : At w X cs T) : X < w.heap.size := (Array.getElem?_eq_some_iff.1 h).1
theorem at_kept (h : At w X cs T) (k : Kept w w') : At w' X cs T := (kept_block k (at_lt h)).trans h
theorem at_new (w : World) (cs : Array Value) (T : Nat) : At (w.alloc (.cells cs T)) w.heap.size cs T := by
  show (w.heap.push _)[w.heap.size]? = _
  simp
theorem at_alloc (h : At w X cs T) (o : Obj) : At (w.alloc o) X cs T := at_kept h (kept_alloc (kept_refl w) o)
theorem at_drew (h : At w X cs T) : At w.drew X cs T := h
theorem at_ne (h : At w X cs T) (k : At w Y ds U) (hTU : T ≠ U) : X ≠ Y := by
  rintro rfl
  unfold At at h k
  rw [h] at k
  injection k with k
  injection k with k1 k2 k3
  exact hTU k2
theorem at_other (h : At w X cs T) (hn : X ≠ Y) (o : Nat) (v : Value) : At (w.setCell ⟨Y, o, none⟩ v) X cs T := (Below.heap_setCell _ _ _ _ hn).trans h
theorem at_set (h : At w X cs T) (o : Nat) (v : Value) : At (w.setCell ⟨X, o, none⟩ v) X (cs.setIfInBounds o v) T := by
  unfold At at *
  show (w.heap.modify X _)[X]? = _
  rw [Array.getElem?_modify, if_pos rfl, h]
  rfl
theorem at_cell (h : At w X cs T) (o : Nat) : w.cell? ⟨X, o, none⟩ = cs[o]? := by
  unfold At at h
  unfold World.cell?
  rw [h]
  rfl
theorem at_frozen (h : At w X cs T) (o : Nat) : w.frozen? ⟨X, o, none⟩ = false := by
  unfold At at h
  unfold World.frozen?
  rw [h]
  simp
theorem at_cells3 {a0 a1 a2 : Value} (h : At w X #[a0, a1, a2] T) : w.cell? ⟨X, 0, none⟩ = some a0 ∧ w.cell? ⟨X, 1, none⟩ = some a1 ∧ w.cell? ⟨X, 2, none⟩ = some a2 ∧ ∀ j, w.frozen? ⟨X, j, none⟩ = false :=
  ⟨at_cell h 0, at_cell h 1, at_cell h 2, at_frozen h⟩
theorem at_cells5 {a0 a1 a2 a3 a4 : Value} (h : At w X #[a0, a1, a2, a3, a4] T) : w.cell? ⟨X, 0, none⟩ = some a0 ∧ w.cell? ⟨X, 1, none⟩ = some a1 ∧ w.cell? ⟨X, 2, none⟩ = some a2 ∧ w.cell? ⟨X, 3, none⟩ = some a3 ∧ w.cell? ⟨X, 4, none⟩ = some a4 ∧ ∀ j, w.frozen? ⟨X, j, none⟩ = false :=
  ⟨at_cell h 0, at_cell h 1, at_cell h 2, at_cell h 3, at_cell h 4, at_frozen h⟩
theorem at_cells7 {a0 a1 a2 a3 a4 a5 a6 : Value} (h : At w X #[a0, a1, a2, a3, a4, a5, a6] T) : w.cell? ⟨X, 0, none⟩ = some a0 ∧ w.cell? ⟨X, 1, none⟩ = some a1 ∧ w.cell? ⟨X, 2, none⟩ = some a2 ∧ w.cell? ⟨X, 3, none⟩ = some a3 ∧ w.cell? ⟨X, 4, none⟩ = some a4 ∧ w.cell? ⟨X, 5, none⟩ = some a5 ∧ w.cell? ⟨X, 6, none⟩ = some a6 ∧ ∀ j, w.frozen? ⟨X, j, none⟩ = false :=
  ⟨at_cell h 0, at_cell h 1, at_cell h 2, at_cell h 3, at_cell h 4, at_cell h 5, at_cell h 6, at_frozen h⟩
theorem at_cells8 {a0 a1 a2 a3 a4 a5 a6 a7 : Value} (h : At w X #[a0, a1, a2, a3, a4, a5, a6, a7] T) : w.cell? ⟨X, 0, none⟩ = some a0 ∧ w.cell? ⟨X, 1, none⟩ = some a1 ∧ w.cell? ⟨X, 2, none⟩ = some a2 ∧ w.cell? ⟨X, 3, none⟩ = some a3 ∧ w.cell? ⟨X, 4, none⟩ = some a4 ∧ w.cell? ⟨X, 5, none⟩ = some a5 ∧ w.cell? ⟨X, 6, none⟩ = some a6 ∧ w.cell? ⟨X, 7, none⟩ = some a7 ∧ ∀ j, w.frozen? ⟨X, j, none⟩ = false :=
  ⟨at_cell h 0, at_cell h 1, at_cell h 2, at_cell h 3, at_cell h 4, at_cell h 5, at_cell h 6, at_cell h 7, at_frozen h⟩
end

/- One block may have turned, all else that was there stands. -/
def Turn (c : Nat) (w w' : World) : Prop :=
  w'.os = w.os ∧ w'.output = w.output ∧ w.heap.size ≤ w'.heap.size ∧ ∀ k, k < w.heap.size → k ≠ c → w'.heap[k]? = w.heap[k]?
theorem Turn.refl (c : Nat) (w : World) : Turn c w w := ⟨rfl, rfl, Nat.le_refl _, fun _ _ _ => rfl⟩
theorem Turn.trans {c : Nat} {u v w : World} (h : Turn c u v) (k : Turn c v w) : Turn c u w :=
  ⟨k.1.trans h.1, k.2.1.trans h.2.1, Nat.le_trans h.2.2.1 k.2.2.1, fun i hi hn => (k.2.2.2 i (Nat.lt_of_lt_of_le hi h.2.2.1) hn).trans (h.2.2.2 i hi hn)⟩
theorem turn_kept {c : Nat} {w w' : World} (h : Kept w w') : Turn c w w' := ⟨kept_os h, kept_output h, h.2, fun k hk _ => kept_block h hk⟩
theorem turn_set {c : Nat} {u w : World} (h : Turn c u w) (o : Nat) (v : Value) : Turn c u (w.setCell ⟨c, o, none⟩ v) :=
  ⟨h.1, h.2.1, by simpa [World.setCell] using h.2.2.1, fun k hk hn => (Below.heap_setCell _ _ _ _ hn).trans (h.2.2.2 k hk hn)⟩
theorem turn_new {c X : Nat} {u w : World} (h : Turn c u w) (hX : u.heap.size ≤ X) (o : Nat) (v : Value) : Turn c u (w.setCell ⟨X, o, none⟩ v) :=
  ⟨h.1, h.2.1, by simpa [World.setCell] using h.2.2.1, fun k hk hn => (Below.heap_setCell _ _ _ _ (by show k ≠ X; omega)).trans (h.2.2.2 k hk hn)⟩
theorem turn_alloc {c : Nat} {u w : World} (h : Turn c u w) (o : Obj) : Turn c u (w.alloc o) := h.trans (turn_kept (kept_alloc (kept_refl w) o))
theorem turn_drew {c : Nat} {w w' : World} (h : Turn c w w') : Turn c w w'.drew := h
theorem at_turn {w w' : World} {X T c : Nat} {cs : Array Value} (h : At w X cs T) (hT : Turn c w w') (hn : X ≠ c) : At w' X cs T := (hT.2.2.2 X (at_lt h) hn).trans h
theorem kept_turn {W w w' : World} {c : Nat} (h : Kept W w) (hc : W.heap.size ≤ c) (hT : Turn c w w') : Kept W w' :=
  kept_of (hT.1.trans (kept_os h)) (hT.2.1.trans (kept_output h)) (Nat.le_trans h.2 hT.2.2.1) (fun i hi => (hT.2.2.2 i (Nat.lt_of_lt_of_le hi h.2) (by omega)).trans (kept_block h hi))


theorem hid {p : Prop} (h : p) : Hid p := h
/- What is stored is what was there. -/
theorem kept_again {W w : World} (h : Kept W w) {X T o : Nat} {cs : Array Value} {v : Value} (hA : At w X cs T) (he : cs.setIfInBounds o v = cs) : Kept W (w.setCell ⟨X, o, none⟩ v) := by
  refine kept_of (show w.os = W.os from kept_os h) (show w.output = W.output from kept_output h) (by simpa [World.setCell] using h.2) (fun i hi => ?_)
  by_cases hX : i = X
  · subst hX
    have h1 := at_set hA o v
    rw [he] at h1
    have h2 : w.heap[i]? = _ := hA
    rw [← kept_block h hi, h2]
    exact h1
  · exact (Below.heap_setCell _ _ _ _ (by show i ≠ X; exact hX)).trans (kept_block h hi)
end Go.Proofs.YtioeidhblbfgmaaGreat


namespace Go.Proofs.YtioeidhblbfgmaaGreat
open Go.ChangeShapes Go.WideShapes Go.ChangeAt Go.RowKit
set_option linter.unusedVariables false
set_option maxRecDepth 100000


theorem info5 : (Tryz.prog.info? 5).map (fun i => (i.zero, i.size, i.bytes)) = some (some (.int .u8 0), 1, 1) := by kernel_rfl
theorem make_bytes (w : World) (n : Nat) (hn : n ≤ 281474976710656) :
    (Instr.makeSlice 51 (.int .i64 (n : Int)) (.int .i64 (n : Int))).run Tryz.prog w = .ok (.slice (some ⟨w.heap.size, 0, none⟩) n n) (w.alloc (.cells (madeCells #[.int .u8 0] n) 5)) := by
  obtain ⟨i0, hi, hz0, hz1, hz2⟩ := info_parts info5
  have := run_make (P := Tryz.prog) w 51 5 i0 _ Tryz.underlying51 hi hz0 .i64 .i64 (n : Int) (n : Int) (by omega) (by omega) (by rw [hz2]; omega) (by omega)
  rw [this, hz1, Nat.mul_one]
  rfl
theorem made_cell (n j : Nat) (hj : j < n) : (madeCells #[.int .u8 0] n)[j]? = some (.int .u8 0) := by
  unfold madeCells
  rw [Array.getElem?_map, Array.getElem?_range, if_pos hj]
  have e : j % (#[Value.int .u8 0] : Array Value).size = 0 := Nat.mod_one j
  simp only [Option.map_some, e]
  rfl
/- A row of bytes in block B reads as a text. -/
theorem row_text {B n : Nat} {L : List UInt8} {w : World} (h : ∀ j (hj : j < L.length), w.cell? ⟨B, j, none⟩ = some (.int .u8 (L[j].toNat : Int))) (hL : L.length = n) (cap : Nat) :
    (convert 51 9 (.slice (some ⟨B, 0, none⟩) n cap)).run Tryz.prog w = .ok (.string ⟨L.toArray⟩) w := by
  have hcv := run_convert_bytes_back (P := Tryz.prog) w 51 9 5 ⟨B, 0, none⟩ cap L Tryz.underlying51 Tryz.underlying5 Tryz.underlying9 (fun j hj => by
    have := h j hj
    rcases Nat.eq_zero_or_pos j with h0 | h0
    · subst h0; simpa [Addr.add] using this
    · rw [show (⟨B, 0, none⟩ : Addr).add j = ⟨B, j, none⟩ by simp [Addr.add]; omega]; exact this)
  rw [hL] at hcv
  exact hcv
theorem pow_wide (k : Nat) (hk : k ≤ 3) : (2 : Int) ^ k = ((wide k : Nat) : Int) := by
  rcases (show k = 0 ∨ k = 1 ∨ k = 2 ∨ k = 3 by omega) with rfl | rfl | rfl | rfl <;> rfl
theorem wrap_kl (k : Nat) (hk : k ≤ 3) : IntKind.u64.wrap ((k : Int) * ((lim k : Nat) : Int)) = ((k * lim k : Nat) : Int) := by
  have := kl_lt k hk
  rw [IntKind.wrap_u64, ← Int.natCast_mul, Int.emod_eq_of_lt (by omega) (by omega)]
theorem bitsOf_le (k : Nat) : bitsOf k ≤ 62 := by unfold bitsOf; repeat' split
                                                  all_goals omega
set_option maxHeartbeats 1600000 in
theorem put_any (n : Nat) (hn : n < 4611686018427387904) (w : World) : Calls Tryz.prog 116 #[.int .u64 (n : Int)] w fun e w' => e = .returned (.string ⟨(enc n).toArray⟩) ∧ Below w.heap.size w w' := by
  have hn64 : n < 18446744073709551616 := by omega
  have hK := leastKind_any n hn64
  have hR := or_kind (kindOf n) n (kind_le n) (kind_lt n hn)
  have hm64 := mark_u64 n hn
  have HE : Hid (enc n = be (mark n) (wide (kindOf n))) := rfl
  have hk := kind_le n
  rw [← mark, Int.natCast_mul] at hR
  generalize kindOf n = k at *
  generalize mark n = R at *
  generalize enc n = L at *
  have hb := bitsFor_any k hk
  have hp := pow_kind k hk
  have hp2 := pow_wide k hk
  have hb62 := bitsOf_le k
  have hwr := wrap_kl k hk
  have hwk : IntKind.u64.wrap (k : Int) = (k : Int) := by rw [IntKind.wrap_u64]; omega
  have hmk := make_bytes w (wide k) (by have := wide_pos k; omega)
  have hw8 := wide_pos k
  have hcell : ∀ j, j < wide k → (w.alloc (.cells (madeCells #[.int .u8 0] (wide k)) 5)).cell? ⟨w.heap.size, j, none⟩ = some (.int .u8 0) := fun j hj => by
    have := made_cell (wide k) j hj
    simpa using this
  have hfr : ∀ j, (w.alloc (.cells (madeCells #[.int .u8 0] (wide k)) 5)).frozen? ⟨w.heap.size, j, none⟩ = false := fun j => by
    rw [frozen?_alloc_cells]
    simp [World.frozen?]
  have hbel : Hid (Below w.heap.size w (w.alloc (.cells (madeCells #[.int .u8 0] (wide k)) 5))) := (Below.refl _ w).alloc (Nat.le_refl _) _
  have HLn : Hid (L.length = wide k) := by rw [HE.out]; exact be_length _ _
  have HLg : Hid (∀ j (h : j < L.length), L[j].toNat = R / 256 ^ (wide k - 1 - j) % 256) := by
    intro j h
    have h1 := be_get (wide k) R j (by rw [← HLn.out]; exact h)
    rw [← HE.out, List.getElem?_eq_getElem h] at h1
    rw [Option.some.inj h1, ofNat_toNat]
  generalize w.alloc (.cells (madeCells #[.int .u8 0] (wide k)) 5) = w1 at *
  obtain ⟨B, hB⟩ : ∃ B, B = w.heap.size := ⟨_, rfl⟩
  rw [← hB] at hmk hcell hfr hbel
  have HBw : Hid (B = w.heap.size) := hB
  clear hB
  have HC : Hid (∀ j, j < wide k → w1.cell? ⟨B, j, none⟩ = some (.int .u8 0)) := hcell
  have HF : Hid (∀ j, w1.frozen? ⟨B, j, none⟩ = false) := hfr
  clear hcell hfr HE
  go_enter Tryz.func116, Tryz.ntmps116
  go_wp2_with (first | (go_at_call 128; refine (hK _).mono ?_; rintro e w ⟨rfl, rfl⟩) | (go_at_call 127; refine (hb _).mono ?_; rintro e w ⟨rfl, rfl⟩))
  generalize wide k = W at *
  clear hK hb hp hp2 hwr hwk hR hmk
  go_loopw [4, 6] (fun r i wr => ∃ q : Nat, q ≤ W ∧ i = .int .i64 ((q : Int) - 1) ∧ r = .int .u64 ((R / 256 ^ (W - q) : Nat) : Int) ∧ Hid (Below B w wr) ∧ Hid (∀ j, wr.frozen? ⟨B, j, none⟩ = false) ∧ Hid (∀ j, j < W → ∃ v, wr.cell? ⟨B, j, none⟩ = some v) ∧ Hid (∀ j (hj : j < L.length), q ≤ j → wr.cell? ⟨B, j, none⟩ = some (.int .u8 (L[j].toNat : Int)))) (fun _ i _ => (intOf i + 1).toNat)
  case atStart => exact ⟨W, Nat.le_refl _, by go_num, by simp, hbel, HF, fun j hj => ⟨_, HC.out j hj⟩, fun j hj hq => absurd hj (by rw [HLn.out]; omega)⟩
  case round =>
    obtain ⟨q, hq, rfl, rfl, HS, HZ, HV, HE⟩ := hrel
    rcases q with _ | m
    · have hcv := row_text (w := wr) (B := B) (L := L) (n := W) (fun j hj => HE.out j hj (Nat.zero_le _)) HLn.out W
      go_wp2
      go_ret
      exact ⟨rfl, HBw.out ▸ HS.out⟩
    · rw [show ((m + 1 : Nat) : Int) - 1 = (m : Int) by omega]
      obtain ⟨v, hv⟩ := HV.out m (by omega)
      have hfz := HZ.out m
      have hx : Hid (R / 256 ^ (W - m) = R / 256 ^ (W - (m + 1)) / 256) := by
        show _ = _
        rw [Nat.div_div_eq_div_mul, ← Nat.pow_succ, show W - m = (W - (m + 1)).succ by omega]
      have hg : Hid (∀ h : m < L.length, L[m].toNat = R / 256 ^ (W - (m + 1)) % 256) := fun h => by
        rw [HLg.out m h, show W - 1 - m = W - (m + 1) by omega]
      have hxl : R / 256 ^ (W - (m + 1)) < 18446744073709551616 := Nat.lt_of_le_of_lt (Nat.div_le_self _ _) hm64
      generalize R / 256 ^ (W - (m + 1)) = x at *
      have hwx : IntKind.u8.wrap (x : Int) = ((x % 256 : Nat) : Int) := by rw [IntKind.wrap_u8']; omega
      have hxd : (x : Int) / 256 = ((x / 256 : Nat) : Int) := by omega
      generalize hd : x % 256 = d at *
      have HD : Hid (x % 256 = d) := hd
      clear hd
      generalize hy : x / 256 = y at *
      have HY : Hid (x / 256 = y) := hy
      clear hy
      go_wp2
      have HW : Hid (∀ i, (wr.setCell ⟨B, m, none⟩ (.int .u8 (d : Int))).cell? ⟨B, i, none⟩ = if i = m then some (.int .u8 (d : Int)) else wr.cell? ⟨B, i, none⟩) := by
        intro i
        split
        · rename_i h; subst h; exact World.cell?_setCell_same _ _ _ hv
        · exact World.cell?_setCell_other _ _ _ _ (by simp <;> omega)
      have HU : Hid (Below B w (wr.setCell ⟨B, m, none⟩ (.int .u8 (d : Int)))) := HS.out.setCell (Nat.le_refl _) _
      have HQ : Hid (∀ j, (wr.setCell ⟨B, m, none⟩ (.int .u8 (d : Int))).frozen? ⟨B, j, none⟩ = false) := fun j => (World.frozen?_setCell _ _ _ _).trans (HZ.out j)
      generalize wr.setCell ⟨B, m, none⟩ (.int .u8 (d : Int)) = wn at *
      go_roundw
      case rel =>
        refine ⟨m, by omega, rfl, by rw [hx.out], HU, HQ, fun i hi => ?_, fun i hi hik => ?_⟩
        · rw [HW.out i]; split
          · exact ⟨_, rfl⟩
          · exact HV.out i hi
        · rw [HW.out i]; split
          · rename_i h; subst h; rw [hg.out hi]
          · exact HE.out i hi (by omega)
      case measure => simp [intOf]
theorem holds3 (n : Nat) (hn : n < 18446744073709551616) (w : World) : Calls Tryz.prog 115 #[.int .i64 3, .int .u64 (n : Int)] w fun e w' => e = .returned (.bool (decide (n < 4611686018427387904))) ∧ w' = w := holds_any 3 n (by omega) hn w
def putE (n : Nat) : ByteArray × Nat := if n < 4611686018427387904 then (⟨(enc n).toArray⟩, 0) else (⟨#[]⟩, 4)
theorem Put_any (n : Nat) (hn : n < 18446744073709551616) (w : World) : Calls Tryz.prog 89 #[.int .u64 (n : Int)] w fun e w' => e = .returned (.tuple #[.string (putE n).1, .int .i64 ((putE n).2 : Int)]) ∧ Below w.heap.size w w' := by
  by_cases h : n < 4611686018427387904
  · have e : putE n = (⟨(enc n).toArray⟩, 0) := by unfold putE; rw [if_pos h]
    rw [e]
    have hp := put_any n h
    go_enter Tryz.func89, Tryz.ntmps89
    go_wp2_with (first | (go_at_call 115; refine (holds3 n hn _).mono ?_; rintro e w ⟨rfl, rfl⟩) | (go_at_call 116; refine (hp _).mono ?_; rintro e w1 ⟨rfl, hb1⟩))
    go_ret2
    exact ⟨rfl, hb1⟩
  · have e : putE n = (⟨#[]⟩, 4) := by unfold putE; rw [if_neg h]
    rw [e]
    go_enter Tryz.func89, Tryz.ntmps89
    go_wp2_with (first | (go_at_call 115; refine (holds3 n hn _).mono ?_; rintro e w ⟨rfl, rfl⟩))
    go_ret2
    exact ⟨rfl, Below.refl _ _⟩
def textE (t : ByteArray) : ByteArray := ⟨(enc t.size).toArray⟩ ++ t
theorem PutText_any (t : ByteArray) (ht : t.size ≤ 140737488355328) (w : World) : Calls Tryz.prog 91 #[.string t] w fun e w' => e = .returned (.string (textE t)) ∧ Below w.heap.size w w' := by
  have hp := put_any t.size (by omega)
  have hl : (⟨(enc t.size).toArray⟩ : ByteArray).size ≤ 8 := by
    show (enc t.size).toArray.size ≤ 8
    simp [enc_length]
    exact (wide_pos _).2
  unfold textE
  generalize (⟨(enc t.size).toArray⟩ : ByteArray) = E at *
  go_enter Tryz.func91, Tryz.ntmps91
  go_wp2_with (go_at_call 116; refine (hp _).mono ?_; rintro e w1 ⟨rfl, hb1⟩)
  go_ret
  exact ⟨rfl, hb1⟩
end Go.Proofs.YtioeidhblbfgmaaGreat


namespace Go.Proofs.YtioeidhblbfgmaaGreat
open Go.ChangeShapes Go.WideShapes Go.ChangeAt Go.RowKit
set_option linter.unusedVariables false
set_option maxRecDepth 100000

/- What stands at a place within a text, laid open. -/
theorem getN_at (s : ByteArray) (a : Nat) (ha : a < s.size) : getN s (a : Int) =
    if s.size - a < wide (s[a].toNat / 64) then (0, 0, 2)
    else if kindOf (val (s.extract a (a + wide (s[a].toNat / 64))).data.toList % lim (s[a].toNat / 64)) = s[a].toNat / 64 then (val (s.extract a (a + wide (s[a].toNat / 64))).data.toList % lim (s[a].toNat / 64), a + wide (s[a].toNat / 64), 0)
    else (0, 0, 3) := by
  have hl : a < s.data.toList.length := by simpa using ha
  have hd : s.data.toList.drop a = s[a] :: s.data.toList.drop (a + 1) := by
    rw [List.drop_eq_getElem_cons hl]; rfl
  have hlen : (s[a] :: s.data.toList.drop (a + 1)).length = s.size - a := by
    rw [← hd, List.length_drop]; simp
  have he : val ((s[a] :: s.data.toList.drop (a + 1)).take (wide (s[a].toNat / 64))) = val (s.extract a (a + wide (s[a].toNat / 64))).data.toList := by
    rw [extract_list, ← hd, Nat.add_sub_cancel_left]
  unfold getN
  rw [if_neg (by omega), Int.toNat_natCast, hd]
  unfold getL
  simp only [hlen, he]
  clear he hlen hd
  generalize val (s.extract a (a + wide (s[a].toNat / 64))).data.toList = V
  by_cases h1 : s.size - a < wide (s[a].toNat / 64)
  · simp [h1]
  · by_cases h2 : kindOf (V % lim (s[a].toNat / 64)) = s[a].toNat / 64
    · simp [h1, h2]
    · simp [h1, h2]
theorem getN_end (s : ByteArray) : getN s (s.size : Int) = (0, 0, 2) := by
  have hd : s.data.toList.drop s.size = [] := List.drop_of_length_le (by simp)
  unfold getN
  rw [if_neg (by omega), Int.toNat_natCast, hd]
  rfl
theorem getN_out (s : ByteArray) (p : Int) (h : p < 0 ∨ (s.size : Int) < p) : getN s p = (0, 0, 1) := by
  unfold getN; rw [if_pos h]
/- Of the bytes that a kind tells: what they say, without the kind. -/
theorem val_at (s : ByteArray) (a : Nat) (ha : a < s.size) (h : ¬ s.size - a < wide (s[a].toNat / 64)) :
    (s.extract a (a + wide (s[a].toNat / 64))).size ≤ 8 ∧ val (s.extract a (a + wide (s[a].toNat / 64))).data.toList < 18446744073709551616 ∧ val (s.extract a (a + wide (s[a].toNat / 64))).data.toList / lim (s[a].toNat / 64) = s[a].toNat / 64 := by
  have hk : s[a].toNat / 64 ≤ 3 := by have := s[a].toNat_lt; omega
  have hw := wide_pos (s[a].toNat / 64)
  have hl : a < s.data.toList.length := by simpa using ha
  have hd : s.data.toList.drop a = s[a] :: s.data.toList.drop (a + 1) := by
    rw [List.drop_eq_getElem_cons hl]; rfl
  have he := extract_list s a (a + wide (s[a].toNat / 64))
  rw [Nat.add_sub_cancel_left] at he
  have hlen : (s.extract a (a + wide (s[a].toNat / 64))).data.toList.length = wide (s[a].toNat / 64) := by
    rw [he, List.length_take, List.length_drop]; simp; omega
  have hv := val_lt _ _ hlen
  refine ⟨?_, ?_, ?_⟩
  · have : (s.extract a (a + wide (s[a].toNat / 64))).size = (s.extract a (a + wide (s[a].toNat / 64))).data.toList.length := rfl
    omega
  · have h2 : 256 ^ wide (s[a].toNat / 64) ≤ 256 ^ 8 := Nat.pow_le_pow_right (by omega) hw.2
    rw [show (256 : Nat) ^ 8 = 18446744073709551616 by rfl] at h2
    omega
  · obtain ⟨u, hu⟩ : ∃ u, (s.extract a (a + wide (s[a].toNat / 64))).data.toList = s[a] :: u := by
      obtain ⟨v, hv⟩ : ∃ v, wide (s[a].toNat / 64) = v + 1 := ⟨wide (s[a].toNat / 64) - 1, by omega⟩
      exact ⟨(s.data.toList.drop (a + 1)).take v, by rw [he, hd, hv]; rfl⟩
    rw [hu] at hlen ⊢
    exact head_kind _ u _ hk hlen
theorem slice_at (s : ByteArray) (a v : Nat) (h : a + v ≤ s.size) (w : World) : (Instr.slice 9 (.string s) (some (.int .i64 (a : Int))) (some (.int .i64 ((a : Int) + (v : Int)))) none).run Tryz.prog w = .ok (.string (s.extract a (a + v))) w := by
  have := run_slice_string (P := Tryz.prog) w 9 s .i64 .i64 (a : Int) ((a : Int) + (v : Int)) Tryz.underlying9 (by omega) (by omega) (by omega)
  rw [this, Int.toNat_natCast, show ((a : Int) + (v : Int)).toNat = a + v by omega]
def trip (g : Nat × Nat × Nat) : Value := .tuple #[.int .u64 (g.1 : Int), .int .i64 (g.2.1 : Int), .int .i64 (g.2.2 : Int)]
set_option maxHeartbeats 1600000 in
theorem Get_out (s : ByteArray) (p : Int) (hs : s.size ≤ 140737488355328) (h : p < 0 ∨ (s.size : Int) < p) (w : World) : Calls Tryz.prog 120 #[.string s, .int .i64 p] w fun e w' => e = .returned (trip (getN s p)) ∧ w' = w := by
  rw [getN_out s p h]
  rcases (show p < 0 ∨ (¬ p < 0 ∧ (s.size : Int) < p) by omega) with h1 | ⟨h1, h2⟩
  all_goals
    go_enter Tryz.func120, Tryz.ntmps120
    go_wp2
    go_ret3
    exact ⟨rfl, rfl⟩
set_option maxHeartbeats 1600000 in
theorem Get_end (s : ByteArray) (hs : s.size ≤ 140737488355328) (w : World) : Calls Tryz.prog 120 #[.string s, .int .i64 (s.size : Int)] w fun e w' => e = .returned (trip (0, 0, 2)) ∧ w' = w := by
  go_enter Tryz.func120, Tryz.ntmps120
  go_wp2
  go_ret3
  exact ⟨rfl, rfl⟩
set_option maxHeartbeats 1600000 in
theorem Get_at (s : ByteArray) (a : Nat) (ha : a < s.size) (hs : s.size ≤ 140737488355328) (w : World) : Calls Tryz.prog 120 #[.string s, .int .i64 (a : Int)] w fun e w' => e = .returned (trip (getN s a)) ∧ w' = w := by
  have hk : s[a].toNat / 64 ≤ 3 := by have := s[a].toNat_lt; omega
  have hai : (a : Int) < (s.size : Int) := by omega
  have hgt : Hid (getN s a = _) := getN_at s a ha
  have hva := val_at s a ha
  obtain ⟨k, hkd⟩ : ∃ k, k = s[a].toNat / 64 := ⟨_, rfl⟩
  rw [← hkd] at hk hgt hva
  have hki : (s[a].toNat : Int) / 64 = (k : Int) := by omega
  clear hkd
  have hb := bitsFor_any k hk
  have hp := pow_kind k hk
  have hp2 := pow_wide k hk
  have hb62 := bitsOf_le k
  have hwr := wrap_kl k hk
  have hwk : IntKind.u64.wrap (k : Int) = (k : Int) := by rw [IntKind.wrap_u64]; omega
  have hw8 := wide_pos k
  by_cases h1 : s.size - a < wide k
  · have h1i : (s.size : Int) - (a : Int) < (wide k : Int) := by omega
    have hgt2 := hgt.out
    rw [if_pos h1] at hgt2
    rw [hgt2]
    clear hgt hgt2 hva
    go_enter Tryz.func120, Tryz.ntmps120
    go_wp2
    go_ret3
    exact ⟨rfl, rfl⟩
  · have h1i : ¬ (s.size : Int) - (a : Int) < (wide k : Int) := by omega
    obtain ⟨hv8, hv64, hvk⟩ := hva h1
    have hgt2 := hgt.out
    rw [if_neg h1] at hgt2
    rw [hgt2]
    clear hgt hgt2 hva
    have hrd := read_any _ hv8
    have hsl := slice_at s a (wide k) (by omega)
    have hand := andNot_kind k _ hk hv64 hvk
    rw [Int.natCast_mul] at hand
    generalize val (s.extract a (a + wide k)).data.toList = R at *
    have hl := kind_le (R % lim k)
    have hK := leastKind_any (R % lim k) (Nat.lt_of_le_of_lt (Nat.mod_le _ _) hv64)
    generalize hN : R % lim k = N at *
    generalize hT : kindOf N = T at *
    clear hT hN hvk
    by_cases h2 : T = k
    · rw [if_pos h2]
      have h2i : (T : Int) = (k : Int) := by omega
      go_enter Tryz.func120, Tryz.ntmps120
      go_wp2_with (first | (go_at_call 130; refine (hrd _).mono ?_; rintro e w ⟨rfl, rfl⟩) | (go_at_call 127; refine (hb _).mono ?_; rintro e w ⟨rfl, rfl⟩) | (go_at_call 128; refine (hK _).mono ?_; rintro e w ⟨rfl, rfl⟩))
      go_ret3
      exact ⟨rfl, rfl⟩
    · rw [if_neg h2]
      have h2i : ¬ (T : Int) = (k : Int) := by omega
      go_enter Tryz.func120, Tryz.ntmps120
      go_wp2_with (first | (go_at_call 130; refine (hrd _).mono ?_; rintro e w ⟨rfl, rfl⟩) | (go_at_call 127; refine (hb _).mono ?_; rintro e w ⟨rfl, rfl⟩) | (go_at_call 128; refine (hK _).mono ?_; rintro e w ⟨rfl, rfl⟩))
      go_ret3
      exact ⟨rfl, rfl⟩
theorem Get_any (s : ByteArray) (p : Int) (hs : s.size ≤ 140737488355328) (w : World) : Calls Tryz.prog 120 #[.string s, .int .i64 p] w fun e w' => e = .returned (trip (getN s p)) ∧ w' = w := by
  by_cases h : p < 0 ∨ (s.size : Int) < p
  · exact Get_out s p hs h w
  · obtain ⟨a, rfl⟩ : ∃ a : Nat, p = a := ⟨p.toNat, by omega⟩
    by_cases h2 : a = s.size
    · subst h2
      rw [getN_end]
      exact Get_end s hs w
    · exact Get_at s a (by omega) hs w
end Go.Proofs.YtioeidhblbfgmaaGreat


namespace Go.Proofs.YtioeidhblbfgmaaGreat
open Go.ChangeShapes Go.WideShapes Go.ChangeAt Go.RowKit
set_option linter.unusedVariables false
set_option linter.unusedSimpArgs false
set_option maxRecDepth 100000

/- Where the library's Clone and its types lie in this program. -/
def ren : Go.Shelf.Ren := ⟨fun x => if x = 25 then 96 else x, fun x => if x = 37 then 51 else if x = 47 then 164 else x, fun x => x⟩
theorem laid : Go.Proofs.LaysPu.n25 Tryz.prog ren :=
  { mixed := by kernel_rfl,
    f25 := by kernel_rfl,
    t0 := by kernel_rfl,
    a0 := fun _ => by kernel_rfl,
    z0 := fun _ => by kernel_rfl,
    v0 := fun _ => by kernel_rfl,
    i0 := by kernel_rfl,
    t3 := by kernel_rfl,
    a3 := fun _ => by kernel_rfl,
    z3 := fun _ => by kernel_rfl,
    v3 := fun _ => by kernel_rfl,
    i3 := by kernel_rfl,
    t4 := by kernel_rfl,
    a4 := fun _ => by kernel_rfl,
    z4 := fun _ => by kernel_rfl,
    v4 := fun _ => by kernel_rfl,
    i4 := by kernel_rfl,
    t5 := by kernel_rfl,
    a5 := fun _ => by kernel_rfl,
    z5 := fun _ => by kernel_rfl,
    v5 := fun _ => by kernel_rfl,
    i5 := by kernel_rfl,
    t9 := by kernel_rfl,
    a9 := fun _ => by kernel_rfl,
    z9 := fun _ => by kernel_rfl,
    v9 := fun _ => by kernel_rfl,
    i9 := by kernel_rfl,
    t37 := by kernel_rfl,
    a37 := fun _ => by kernel_rfl,
    z37 := fun _ => by kernel_rfl,
    v37 := fun _ => by kernel_rfl,
    i37 := by kernel_rfl,
    t47 := by kernel_rfl,
    a47 := fun _ => by kernel_rfl,
    z47 := fun _ => by kernel_rfl,
    v47 := fun _ => by kernel_rfl,
    i47 := by kernel_rfl }
theorem clone_inner (s : ByteArray) (hlim : s.size ≤ 140737488355328) (w : World) : Calls Tryz.prog 96 #[.string s] w fun e w' => e = .returned (.string s) ∧ Below w.heap.size w w' :=
  AnyPu.stringslite_Clone laid s w (by omega)
theorem clone_any (s : ByteArray) (hlim : s.size ≤ 140737488355328) (w : World) : Calls Tryz.prog 71 #[.string s] w fun e w' => e = .returned (.string s) ∧ Below w.heap.size w w' := by
  go_enter Tryz.func71, Tryz.ntmps71
  go_wp2_with (go_at_call 96; refine (clone_inner s hlim _).mono ?_; rintro e w1 ⟨rfl, hb1⟩)
  go_ret
  exact ⟨rfl, hb1⟩
end Go.Proofs.YtioeidhblbfgmaaGreat
