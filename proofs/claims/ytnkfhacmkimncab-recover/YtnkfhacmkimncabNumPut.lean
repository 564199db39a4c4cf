/- Contracts of the program's put, Put and PutText: a number's bytes, a text's bytes. They turn nothing that was there. The number is below 2^62, the text has at most 2^47 bytes. -/
import Derived.Test.YtnkfhacmkimncabNumWalks
import Derived.Test.YtnkfhacmkimncabState
import Derived.Laws.MakeOwn
import Derived.Laws.IdiomStrings
import Derived.BigRegion
namespace Go.Proofs.Ytnkfhacmkimncab
open Go.ChangeShapes Go.WideShapes Go.ChangeAt Go.RowKit
set_option linter.unusedVariables false


theorem info5 : (Try.prog.info? 5).map (fun i => (i.zero, i.size, i.bytes)) = some (some (.int .u8 0), 1, 1) := by kernel_rfl
theorem make_bytes (w : World) (n : Nat) (hn : n ≤ 281474976710656) :
    (Instr.makeSlice 56 (.int .i64 (n : Int)) (.int .i64 (n : Int))).run Try.prog w = .ok (.slice (some ⟨w.heap.size, 0, none⟩) n n) (w.alloc (.cells (madeCells #[.int .u8 0] n) 5)) := by
  obtain ⟨i0, hi, hz0, hz1, hz2⟩ := info_parts info5
  have := run_make (P := Try.prog) w 56 5 i0 _ Try.underlying56 hi hz0 .i64 .i64 (n : Int) (n : Int) (by omega) (by omega) (by rw [hz2]; omega) (by omega)
  rw [this, hz1, Nat.mul_one]
  rfl
theorem made_cell (n j : Nat) (hj : j < n) : (madeCells #[.int .u8 0] n)[j]? = some (.int .u8 0) := by
  unfold madeCells
  rw [Array.getElem?_map, Array.getElem?_range, if_pos hj]
  have e : j % (#[Value.int .u8 0] : Array Value).size = 0 := Nat.mod_one j
  simp only [Option.map_some, e]
  rfl
/- A row of bytes in block B reads as a text. -/
theorem row_text {B n : Nat} {L : List UInt8} {w : World} (h : ∀ j (hj : j < L.length), w.cell? ⟨B, j, none⟩ = some (.int .u8 (L[j].toNat : Int))) (hL : L.length = n) (cap : Nat) :
    (convert 56 9 (.slice (some ⟨B, 0, none⟩) n cap)).run Try.prog w = .ok (.string ⟨L.toArray⟩) w := by
  have hcv := run_convert_bytes_back (P := Try.prog) w 56 9 5 ⟨B, 0, none⟩ cap L Try.underlying56 Try.underlying5 Try.underlying9 (fun j hj => by
    have := h j hj
    rcases Nat.eq_zero_or_pos j with h0 | h0
    · subst h0; simpa [Addr.add] using this
    · rw [show (⟨B, 0, none⟩ : Addr).add j = ⟨B, j, none⟩ by simp [Addr.add]; omega]; exact this)
  rw [hL] at hcv
  exact hcv
theorem pow_wide (k : Nat) (hk : k ≤ 3) : (2 : Int) ^ k = ((wide k : Nat) : Int) := by
  rcases (show k = 0 ∨ k = 1 ∨ k = 2 ∨ k = 3 by omega) with rfl | rfl | rfl | rfl <;> rfl
theorem wrap_kl (k : Nat) (hk : k ≤ 3) : IntKind.u64.wrap ((k : Int) * ((lim k : Nat) : Int)) = ((k * lim k : Nat) : Int) := by
  have := kl_lt k hk
  rw [IntKind.wrap_u64, ← Int.natCast_mul, Int.emod_eq_of_lt (by omega) (by omega)]
theorem bitsOf_le (k : Nat) : bitsOf k ≤ 62 := by unfold bitsOf; repeat' split
                                                  all_goals omega
set_option maxHeartbeats 1600000 in
theorem put_any (n : Nat) (hn : n < 4611686018427387904) (w : World) : Calls Try.prog 21 #[.int .u64 (n : Int)] w fun e w' => e = .returned (.string ⟨(enc n).toArray⟩) ∧ Below w.heap.size w w' := by
  have hn64 : n < 18446744073709551616 := by omega
  have hK := leastKind_any n hn64
  have hR := or_kind (kindOf n) n (kind_le n) (kind_lt n hn)
  have hm64 := mark_u64 n hn
  have HE : Hid (enc n = be (mark n) (wide (kindOf n))) := rfl
  have hk := kind_le n
  rw [← mark, Int.natCast_mul] at hR
  generalize kindOf n = k at *
  generalize mark n = R at *
  generalize enc n = L at *
  have hb := bitsFor_any k hk
  have hp := pow_kind k hk
  have hp2 := pow_wide k hk
  have hb62 := bitsOf_le k
  have hwr := wrap_kl k hk
  have hwk : IntKind.u64.wrap (k : Int) = (k : Int) := by rw [IntKind.wrap_u64]; omega
  have hmk := make_bytes w (wide k) (by have := wide_pos k; omega)
  have hw8 := wide_pos k
  have hcell : ∀ j, j < wide k → (w.alloc (.cells (madeCells #[.int .u8 0] (wide k)) 5)).cell? ⟨w.heap.size, j, none⟩ = some (.int .u8 0) := fun j hj => by
    have := made_cell (wide k) j hj
    simpa using this
  have hfr : ∀ j, (w.alloc (.cells (madeCells #[.int .u8 0] (wide k)) 5)).frozen? ⟨w.heap.size, j, none⟩ = false := fun j => by
    rw [frozen?_alloc_cells]
    simp [World.frozen?]
  have hbel : Hid (Below w.heap.size w (w.alloc (.cells (madeCells #[.int .u8 0] (wide k)) 5))) := (Below.refl _ w).alloc (Nat.le_refl _) _
  have HLn : Hid (L.length = wide k) := by rw [HE.out]; exact be_length _ _
  have HLg : Hid (∀ j (h : j < L.length), L[j].toNat = R / 256 ^ (wide k - 1 - j) % 256) := by
    intro j h
    have h1 := be_get (wide k) R j (by rw [← HLn.out]; exact h)
    rw [← HE.out, List.getElem?_eq_getElem h] at h1
    rw [Option.some.inj h1, ofNat_toNat]
  generalize w.alloc (.cells (madeCells #[.int .u8 0] (wide k)) 5) = w1 at *
  obtain ⟨B, hB⟩ : ∃ B, B = w.heap.size := ⟨_, rfl⟩
  rw [← hB] at hmk hcell hfr hbel
  have HBw : Hid (B = w.heap.size) := hB
  clear hB
  have HC : Hid (∀ j, j < wide k → w1.cell? ⟨B, j, none⟩ = some (.int .u8 0)) := hcell
  have HF : Hid (∀ j, w1.frozen? ⟨B, j, none⟩ = false) := hfr
  clear hcell hfr HE
  go_enter Try.func21, Try.ntmps21
  go_wp2_with (first | (go_at_call 28; refine (hK _).mono ?_; rintro e w ⟨rfl, rfl⟩) | (go_at_call 29; refine (hb _).mono ?_; rintro e w ⟨rfl, rfl⟩))
  generalize wide k = W at *
  clear hK hb hp hp2 hwr hwk hR hmk
  go_loopw [4, 6] (fun r i wr => ∃ q : Nat, q ≤ W ∧ i = .int .i64 ((q : Int) - 1) ∧ r = .int .u64 ((R / 256 ^ (W - q) : Nat) : Int) ∧ Hid (Below B w wr) ∧ Hid (∀ j, wr.frozen? ⟨B, j, none⟩ = false) ∧ Hid (∀ j, j < W → ∃ v, wr.cell? ⟨B, j, none⟩ = some v) ∧ Hid (∀ j (hj : j < L.length), q ≤ j → wr.cell? ⟨B, j, none⟩ = some (.int .u8 (L[j].toNat : Int)))) (fun _ i _ => (intOf i + 1).toNat)
  case atStart => exact ⟨W, Nat.le_refl _, by go_num, by simp, hbel, HF, fun j hj => ⟨_, HC.out j hj⟩, fun j hj hq => absurd hj (by rw [HLn.out]; omega)⟩
  case round =>
    obtain ⟨q, hq, rfl, rfl, HS, HZ, HV, HE⟩ := hrel
    rcases q with _ | m
    · have hcv := row_text (w := wr) (B := B) (L := L) (n := W) (fun j hj => HE.out j hj (Nat.zero_le _)) HLn.out W
      go_wp2
      go_ret
      exact ⟨rfl, HBw.out ▸ HS.out⟩
    · rw [show ((m + 1 : Nat) : Int) - 1 = (m : Int) by omega]
      obtain ⟨v, hv⟩ := HV.out m (by omega)
      have hfz := HZ.out m
      have hx : Hid (R / 256 ^ (W - m) = R / 256 ^ (W - (m + 1)) / 256) := by
        show _ = _
        rw [Nat.div_div_eq_div_mul, ← Nat.pow_succ, show W - m = (W - (m + 1)).succ by omega]
      have hg : Hid (∀ h : m < L.length, L[m].toNat = R / 256 ^ (W - (m + 1)) % 256) := fun h => by
        rw [HLg.out m h, show W - 1 - m = W - (m + 1) by omega]
      have hxl : R / 256 ^ (W - (m + 1)) < 18446744073709551616 := Nat.lt_of_le_of_lt (Nat.div_le_self _ _) hm64
      generalize R / 256 ^ (W - (m + 1)) = x at *
      have hwx : IntKind.u8.wrap (x : Int) = ((x % 256 : Nat) : Int) := by rw [IntKind.wrap_u8']; omega
      have hxd : (x : Int) / 256 = ((x / 256 : Nat) : Int) := by omega
      generalize hd : x % 256 = d at *
      have HD : Hid (x % 256 = d) := hd
      clear hd
      generalize hy : x / 256 = y at *
      have HY : Hid (x / 256 = y) := hy
      clear hy
      go_wp2
      have HW : Hid (∀ i, (wr.setCell ⟨B, m, none⟩ (.int .u8 (d : Int))).cell? ⟨B, i, none⟩ = if i = m then some (.int .u8 (d : Int)) else wr.cell? ⟨B, i, none⟩) := by
        intro i
        split
        · rename_i h; subst h; exact World.cell?_setCell_same _ _ _ hv
        · exact World.cell?_setCell_other _ _ _ _ (by simp <;> omega)
      have HU : Hid (Below B w (wr.setCell ⟨B, m, none⟩ (.int .u8 (d : Int)))) := HS.out.setCell (Nat.le_refl _) _
      have HQ : Hid (∀ j, (wr.setCell ⟨B, m, none⟩ (.int .u8 (d : Int))).frozen? ⟨B, j, none⟩ = false) := fun j => (World.frozen?_setCell _ _ _ _).trans (HZ.out j)
      generalize wr.setCell ⟨B, m, none⟩ (.int .u8 (d : Int)) = wn at *
      go_roundw
      case rel =>
        refine ⟨m, by omega, rfl, by rw [hx.out], HU, HQ, fun i hi => ?_, fun i hi hik => ?_⟩
        · rw [HW.out i]; split
          · exact ⟨_, rfl⟩
          · exact HV.out i hi
        · rw [HW.out i]; split
          · rename_i h; subst h; rw [hg.out hi]
          · exact HE.out i hi (by omega)
      case measure => simp [intOf]
theorem holds3 (n : Nat) (hn : n < 18446744073709551616) (w : World) : Calls Try.prog 30 #[.int .i64 3, .int .u64 (n : Int)] w fun e w' => e = .returned (.bool (decide (n < 4611686018427387904))) ∧ w' = w := holds_any 3 n (by omega) hn w
def putE (n : Nat) : ByteArray × Nat := if n < 4611686018427387904 then (⟨(enc n).toArray⟩, 0) else (⟨#[]⟩, 4)
theorem Put_any (n : Nat) (hn : n < 18446744073709551616) (w : World) : Calls Try.prog 22 #[.int .u64 (n : Int)] w fun e w' => e = .returned (.tuple #[.string (putE n).1, .int .i64 ((putE n).2 : Int)]) ∧ Below w.heap.size w w' := by
  by_cases h : n < 4611686018427387904
  · have e : putE n = (⟨(enc n).toArray⟩, 0) := by unfold putE; rw [if_pos h]
    rw [e]
    have hp := put_any n h
    go_enter Try.func22, Try.ntmps22
    go_wp2_with (first | (go_at_call 30; refine (holds3 n hn _).mono ?_; rintro e w ⟨rfl, rfl⟩) | (go_at_call 21; refine (hp _).mono ?_; rintro e w1 ⟨rfl, hb1⟩))
    go_ret2
    exact ⟨rfl, hb1⟩
  · have e : putE n = (⟨#[]⟩, 4) := by unfold putE; rw [if_neg h]
    rw [e]
    go_enter Try.func22, Try.ntmps22
    go_wp2_with (first | (go_at_call 30; refine (holds3 n hn _).mono ?_; rintro e w ⟨rfl, rfl⟩))
    go_ret2
    exact ⟨rfl, Below.refl _ _⟩
def textE (t : ByteArray) : ByteArray := ⟨(enc t.size).toArray⟩ ++ t
theorem PutText_any (t : ByteArray) (ht : t.size ≤ 140737488355328) (w : World) : Calls Try.prog 10 #[.string t] w fun e w' => e = .returned (.string (textE t)) ∧ Below w.heap.size w w' := by
  have hp := put_any t.size (by omega)
  have hl : (⟨(enc t.size).toArray⟩ : ByteArray).size ≤ 8 := by
    show (enc t.size).toArray.size ≤ 8
    simp [enc_length]
    exact (wide_pos _).2
  unfold textE
  generalize (⟨(enc t.size).toArray⟩ : ByteArray) = E at *
  go_enter Try.func10, Try.ntmps10
  go_wp2_with (go_at_call 21; refine (hp _).mono ?_; rintro e w1 ⟨rfl, hb1⟩)
  go_ret
  exact ⟨rfl, hb1⟩
end Go.Proofs.Ytnkfhacmkimncab
