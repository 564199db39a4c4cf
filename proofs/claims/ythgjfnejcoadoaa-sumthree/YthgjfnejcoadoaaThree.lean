/- The law on three texts, walked: the sums, xor each other, are the sum of the bytes, xor each other; it answers true and turns nothing that was there. Texts have at most as many bytes as a text may have. -/
import Derived.Test.YthgjfnejcoadoaaBit
import Derived.Laws.MakeOwn
import Derived.Deep.RegionWith
import Derived.BigRegion
import Derived.Deep.RegionHeld3
namespace Go.Proofs.Ythgjfnejcoadoaa
open Go.ChangeShapes Go.WideShapes Go.ChangeAt Go.RowKit
set_option linter.unusedVariables false

def mm (x y : Int) : Int := if y < x then y else x
theorem mm_nat (x y : Nat) : mm (x : Int) (y : Int) = ((min x y : Nat) : Int) := by
  unfold mm; split <;> omega
theorem run_min_4 {P : Program} (w : World) (ts : Array TypeId) (t : TypeId) (k : IntKind) (x y z u : Int) :
    (Builtin.min_ ts t #[.int k x, .int k y, .int k z, .int k u]).run P w = .ok (.int k (mm (mm (mm x y) z) u)) w := by
  simp [Builtin.min_, Builtin.min2, mm]
  congr
theorem min_4 (x y z n : Nat) (hn : n = min (min (min x y) z) 3000) : mm (mm (mm (x : Int) (y : Int)) (z : Int)) 3000 = (n : Int) := by
  have e : (3000 : Int) = ((3000 : Nat) : Int) := rfl
  rw [e, mm_nat, mm_nat, mm_nat, hn]
theorem info5 : (Try.prog.info? 5).map (fun i => (i.zero, i.size, i.bytes)) = some (some (.int .u8 0), 1, 1) := by kernel_rfl
theorem make_bytes (w : World) (n : Nat) (hn : n ≤ 3000) :
    (Instr.makeSlice 33 (.int .i64 (n : Int)) (.int .i64 (n : Int))).run Try.prog w = .ok (.slice (some ⟨w.heap.size, 0, none⟩) n n) (w.alloc (.cells (madeCells #[.int .u8 0] n) 5)) := by
  obtain ⟨i0, hi, hz0, hz1, hz2⟩ := info_parts info5
  have := run_make (P := Try.prog) w 33 5 i0 _ Try.underlying33 hi hz0 .i64 .i64 (n : Int) (n : Int) (by omega) (by omega) (by rw [hz2]; omega) (by omega)
  rw [this, hz1, Nat.mul_one]
  rfl
theorem made_cell (n j : Nat) (hj : j < n) : (madeCells #[.int .u8 0] n)[j]? = some (.int .u8 0) := by
  unfold madeCells
  rw [Array.getElem?_map, Array.getElem?_range, if_pos hj]
  have e : j % (#[Value.int .u8 0] : Array Value).size = 0 := Nat.mod_one j
  simp only [Option.map_some, e]
  rfl
theorem xor8 (x y : UInt8) : bits .xor .u8 (x.toNat : Int) (y.toNat : Int) = ((x ^^^ y).toNat : Int) := by
  rw [u8_xor_nat _ _ (u8_lt x) (u8_lt y), UInt8.toNat_xor]
def xors (a b c : List UInt8) (n : Nat) : List UInt8 := List.zipWith (· ^^^ ·) (List.zipWith (· ^^^ ·) (a.take n) (b.take n)) (c.take n)
theorem xors_length (a b c : List UInt8) (n : Nat) (ha : n ≤ a.length) (hb : n ≤ b.length) (hc : n ≤ c.length) : (xors a b c n).length = n := by
  simp [xors]; omega
theorem xors_get (a b c : ByteArray) (n k : Nat) (ha : n ≤ a.size) (hb : n ≤ b.size) (hc : n ≤ c.size) (hk : k < n) (h : k < (xors a.data.toList b.data.toList c.data.toList n).length) :
    (xors a.data.toList b.data.toList c.data.toList n)[k] = (a[k]'(by omega) ^^^ b[k]'(by omega)) ^^^ c[k]'(by omega) := by
  simp [xors]; rfl
theorem take_extract (s : ByteArray) (n : Nat) (h : n ≤ s.size) : (s.extract 0 n).data.toList = s.data.toList.take n := by
  rw [ByteArray.data_extract, Array.toList_extract]
  simp [List.extract]
theorem new_at (W w : World) (h : St W [] w) :
    Calls Try.prog 9 #[] w fun e w' => ∃ b, e = .returned (.pointer (some ⟨b, 0, none⟩)) ∧ w.heap.size ≤ b ∧ St W [b] w' ∧ w.heap.size ≤ w'.heap.size ∧ ∀ k, k < w.heap.size → w'.heap[k]? = w.heap[k]? := by
  refine (new_any w).mono ?_
  rintro e w1 ⟨rfl, c, rfl, hF⟩
  have g : Kept w (w.alloc (.cells c 49)) := kept_grown ((Grown.refl w).alloc _ _)
  have hz : (w.alloc (.cells c 49)).heap.size = w.heap.size + 1 := by simp
  refine ⟨w.heap.size, rfl, Nat.le_refl _, ⟨kept_trans h.1 g, fun b hb => ?_⟩, by omega, fun k hk => kept_block g hk⟩
  obtain rfl := List.mem_singleton.1 hb
  exact ⟨h.1.2, by omega, .inl hF⟩
/- A row of bytes lies in block B, and reads as the text of L. -/
def Rd (B : Nat) (L : List UInt8) (w : World) : Prop := B < w.heap.size ∧ ∀ j (hj : j < L.length), w.cell? ⟨B, j, none⟩ = some (.int .u8 (L[j].toNat : Int))
theorem rd_run {B n : Nat} {L : List UInt8} {w : World} (h : Rd B L w) (hL : L.length = n) (cap : Nat) :
    (convert 33 9 (.slice (some ⟨B, 0, none⟩) n cap)).run Try.prog w = .ok (.string ⟨L.toArray⟩) w := by
  have hcv := run_convert_bytes_back (P := Try.prog) w 33 9 5 ⟨B, 0, none⟩ cap L Try.underlying33 Try.underlying5 Try.underlying9 (fun j hj => by
    have := h.2 j hj
    rcases Nat.eq_zero_or_pos j with h0 | h0
    · subst h0; simpa [Addr.add] using this
    · rw [show (⟨B, 0, none⟩ : Addr).add j = ⟨B, j, none⟩ by simp [Addr.add]; omega]; exact this)
  rw [hL] at hcv
  exact hcv
theorem rd_rest {B t : Nat} {L : List UInt8} {w w' : World} (h : Rd B L w) (hR : Rest [t] w w') (hn : t ≠ B) : Rd B L w' :=
  ⟨Nat.lt_of_lt_of_le h.1 hR.1, fun j hj => (World.cell?_of_block (w := w) (w' := w') (a := ⟨B, j, none⟩) (hR.2 B h.1 (by simp; exact fun e => hn e.symm))).trans (h.2 j hj)⟩
theorem fixed_row (W : World) (t B n : Nat) (L : List UInt8) (T : ByteArray) (hT : T = ⟨L.toArray⟩) (hBt : t ≠ B) (hL : L.length = n) (w : World) (h : St W [t] w) (hD : Rd B L w) :
    Calls Try.prog 8 #[] w fun e w' => e = .returned (.bool true) ∧ St W [t] w' ∧ Rd B L w' ∧ (convert 33 9 (.slice (some ⟨B, 0, none⟩) n n)).run Try.prog w' = .ok (.string T) w' :=
  (fixed_in W [t] w h).mono fun _ _ ⟨he, hS, hR⟩ => ⟨he, hS, rd_rest hD hR hBt, hT ▸ rd_run (rd_rest hD hR hBt) hL n⟩
theorem sum_row (W : World) (t B n : Nat) (L : List UInt8) (T : ByteArray) (hT : T = ⟨L.toArray⟩) (hBt : t ≠ B) (hL : L.length = n) (s : ByteArray) (hs : s.size ≤ maxLen) (w : World) (h : St W [t] w) (hD : Rd B L w) :
    Calls Try.prog 10 #[.pointer (some ⟨t, 0, none⟩), .string s] w fun e w' => e = .returned (.int .u32 (more 0 s.data.toList)) ∧ St W [t] w' ∧ Rd B L w' ∧ (convert 33 9 (.slice (some ⟨B, 0, none⟩) n n)).run Try.prog w' = .ok (.string T) w' :=
  (sum_in W [t] t (by simp) s hs w h).mono fun _ _ ⟨he, hS, hR⟩ => ⟨he, hS, rd_rest hD hR hBt, hT ▸ rd_run (rd_rest hD hR hBt) hL n⟩
theorem st_drewN {W : World} {bs : List Nat} {w : World} (h : St W bs w) (m : Nat) : St W bs (w.drewN m) := h
set_option maxHeartbeats 3200000 in
theorem three_walk (a b c : ByteArray) (ha : a.size ≤ maxLen) (hb : b.size ≤ maxLen) (hc : c.size ≤ maxLen) (w : World) :
    Calls Try.prog 7 #[.string a, .string b, .string c] w fun e w' => e = .returned (.bool true) ∧ Kept w w' := by
  unfold maxLen at ha hb hc
  obtain ⟨n, hn⟩ : ∃ n, n = min (min (min a.size b.size) c.size) 3000 := ⟨_, rfl⟩
  have hmin := run_min_4 (P := Try.prog) w #[3, 3, 3, 3] 3 .i64 a.size b.size c.size 3000
  rw [min_4 _ _ _ n hn] at hmin
  have na : n ≤ a.size := by omega
  have nb : n ≤ b.size := by omega
  have nc : n ≤ c.size := by omega
  have n3 : n ≤ 3000 := by omega
  clear hn
  have S0 : St w [] w := St.start w
  have hmk := make_bytes w n n3
  have hcell : ∀ j, j < n → (w.alloc (.cells (madeCells #[.int .u8 0] n) 5)).cell? ⟨w.heap.size, j, none⟩ = some (.int .u8 0) := fun j hj => by
    have := made_cell n j hj
    simpa using this
  have hfr : ∀ j, (w.alloc (.cells (madeCells #[.int .u8 0] n) 5)).frozen? ⟨w.heap.size, j, none⟩ = false := fun j => by
    rw [frozen?_alloc_cells]
    simp [World.frozen?]
  have S1 := (st_kept S0 (kept_grown ((Grown.refl w).alloc (madeCells #[.int .u8 0] n) 5))).1
  have hz : (w.alloc (.cells (madeCells #[.int .u8 0] n) 5)).heap.size = w.heap.size + 1 := by simp
  generalize w.alloc (.cells (madeCells #[.int .u8 0] n) 5) = w1 at *
  obtain ⟨B, hB⟩ : ∃ B, B = w.heap.size := ⟨_, rfl⟩
  rw [← hB] at hmk hcell hfr hz
  have hBW : w.heap.size ≤ B := by omega
  clear hB
  have HC : Hid (∀ j, j < n → w1.cell? ⟨B, j, none⟩ = some (.int .u8 0)) := hcell
  have HF : Hid (∀ j, w1.frozen? ⟨B, j, none⟩ = false) := hfr
  clear hcell hfr
  go_enter Try.func7, Try.ntmps7
  go_wp2_with fail
  have HLn : Hid ((xors a.data.toList b.data.toList c.data.toList n).length = n) := xors_length _ _ _ n (by simpa using na) (by simpa using nb) (by simpa using nc)
  have HLg := fun k (hk : k < n) => xors_get a b c n k na nb nc hk
  have HM : Hid (more 0 (xors a.data.toList b.data.toList c.data.toList n) = more 0 (a.data.toList.take n) ^^^ more 0 (b.data.toList.take n) ^^^ more 0 (c.data.toList.take n)) :=
    more_three n _ _ _ (by simp; omega) (by simp; omega) (by simp; omega)
  generalize xors a.data.toList b.data.toList c.data.toList n = L at *
  go_loopw [22] (fun j wr => ∃ k : Nat, k ≤ n ∧ j = .int .i64 k ∧ Hid (St w [] wr) ∧ Hid (B < wr.heap.size) ∧ Hid (∀ j, wr.frozen? ⟨B, j, none⟩ = false) ∧ Hid (∀ j, j < n → ∃ v, wr.cell? ⟨B, j, none⟩ = some v) ∧ Hid (∀ j (hj : j < L.length), j < k → wr.cell? ⟨B, j, none⟩ = some (.int .u8 (L[j].toNat : Int)))) (fun j _ => n - (intOf j).toNat)
  case atStart => exact ⟨0, Nat.zero_le _, rfl, S1, by show B < _; omega, HF, fun j hj => ⟨_, HC.out j hj⟩, fun j _ hj => absurd hj (Nat.not_lt_zero _)⟩
  case round =>
    obtain ⟨k, hk, rfl, HS, HB, HZ, HV, HE⟩ := hrel
    by_cases hlt : k < n
    · have hka : k < a.size := by omega
      have hkb : k < b.size := by omega
      have hkc : k < c.size := by omega
      have ika : (k : Int) < (a.size : Int) := by omega
      have ikb : (k : Int) < (b.size : Int) := by omega
      have ikc : (k : Int) < (c.size : Int) := by omega
      obtain ⟨v, hv⟩ := HV.out k hlt
      have hfz := HZ.out k
      have hx1 := xor8 a[k] b[k]
      have hx2 := xor8 (a[k] ^^^ b[k]) c[k]
      have HG : Hid (∀ h, L[k]'h = (a[k] ^^^ b[k]) ^^^ c[k]) := fun h => HLg k hlt h
      clear HLg
      rw [UInt8.toNat_xor a[k] b[k]] at hx1 hx2
      have HX : Hid (bits .xor .u8 ((a[k].toNat ^^^ b[k].toNat : Nat) : Int) (c[k].toNat : Int) = (((a[k] ^^^ b[k]) ^^^ c[k]).toNat : Int)) := hx2
      clear hx2
      generalize (a[k] ^^^ b[k]) ^^^ c[k] = d at *
      go_wp2
      go_region
      rw [HX.out]
      have HW : Hid (∀ i, (wr.setCell ⟨B, k, none⟩ (.int .u8 (d.toNat : Int))).drew.cell? ⟨B, i, none⟩ = if i = k then some (.int .u8 (d.toNat : Int)) else wr.cell? ⟨B, i, none⟩) := by
        intro i
        rw [World.cell?_drew]
        split
        · rename_i h; subst h; exact World.cell?_setCell_same _ _ _ hv
        · exact World.cell?_setCell_other _ _ _ _ (by simp <;> omega)
      have HY : Hid (St w [] (wr.setCell ⟨B, k, none⟩ (.int .u8 (d.toNat : Int))).drew) := st_own HS.out hBW (by simp) k _
      have HU : Hid (B < (wr.setCell ⟨B, k, none⟩ (.int .u8 (d.toNat : Int))).drew.heap.size) := by
        show B < (wr.setCell ⟨B, k, none⟩ _).heap.size
        have := HB.out
        simpa [World.setCell] using this
      have HQ : Hid (∀ j, (wr.setCell ⟨B, k, none⟩ (.int .u8 (d.toNat : Int))).drew.frozen? ⟨B, j, none⟩ = false) := fun j => (World.frozen?_setCell _ _ _ _).trans (HZ.out j)
      generalize (wr.setCell ⟨B, k, none⟩ (.int .u8 (d.toNat : Int))).drew = wn at *
      go_wp2
      go_roundw
      case rel =>
        refine ⟨k + 1, by omega, by go_num, HY, HU, HQ, fun i hi => ?_, fun i hi hik => ?_⟩
        · rw [HW.out i]; split
          · exact ⟨_, rfl⟩
          · exact HV.out i hi
        · rw [HW.out i]; split
          · rename_i h; subst h; rw [HG.out hi]
          · exact HE.out i hi (by omega)
      case measure => simp [intOf]; omega
    · have hkk : k = n := by omega
      subst hkk
      clear HLg
      go_wp2_with fail
      refine (new_at w _ HS.out).mono ?_
      rintro e w2 ⟨t, rfl, hnt, S2, hz2, R2⟩
      have hBt : Hid (t ≠ B) := by have := HB.out; show t ≠ B; omega
      have D2 : Rd B L w2.drew := ⟨Nat.lt_of_lt_of_le HB.out hz2, fun j hj =>
        (World.cell?_of_block (w := wr) (w' := w2) (a := ⟨B, j, none⟩) (R2 B HB.out)).trans (HE.out j hj (by have := HLn.out; omega))⟩
      clear hnt hz2 R2 HE HV HZ HS HB HC HF hmin hmk
      obtain ⟨T, hT0⟩ : ∃ T : ByteArray, T = ⟨L.toArray⟩ := ⟨_, rfl⟩
      have hcv0 : (convert 33 9 (.slice (some ⟨B, 0, none⟩) k k)).run Try.prog w2.drew = .ok (.string T) w2.drew := hT0 ▸ rd_run D2 HLn.out k
      have HT : Hid (more 0 T.data.toList = more 0 L) := by rw [hT0]; rfl
      have hTs : Hid (T.size ≤ maxLen) := by
        rw [hT0]
        show L.length ≤ maxLen
        rw [HLn.out]; unfold maxLen; omega
      have hT : Hid (T = ⟨L.toArray⟩) := hT0
      clear hT0
      have hA : (a.extract 0 k).size ≤ maxLen := by simp [maxLen]; omega
      have hBs : (b.extract 0 k).size ≤ maxLen := by simp [maxLen]; omega
      have hCs : (c.extract 0 k).size ≤ maxLen := by simp [maxLen]; omega
      have ika : (k : Int) ≤ (a.size : Int) := by omega
      have ikb : (k : Int) ≤ (b.size : Int) := by omega
      have ikc : (k : Int) ≤ (c.size : Int) := by omega
      have S2 : St w [t] w2.drew := S2
      go_wp2_with fail
      go_region_held3 (fun w' => (convert 33 9 (.slice (some ⟨B, 0, none⟩) k k)).run Try.prog w' = .ok (.string T) w') (assumption) (first
        | (go_at_call 8; refine (fixed_row w t B k L T hT.out hBt.out HLn.out _ (by assumption) (by assumption)).mono ?_; rintro e w3 ⟨rfl, S3, D3, hcv3⟩)
        | (go_at_call 10; refine (sum_row w t B k L T hT.out hBt.out HLn.out _ (by first | exact hTs.out | exact hA | exact hBs | exact hCs) _ (by assumption) (by assumption)).mono ?_; rintro e w3 ⟨rfl, S3, D3, hcv3⟩))
      have hl1 := more_lt 0 (by omega) (a.data.toList.take k)
      have hl2 := more_lt 0 (by omega) (b.data.toList.take k)
      have hl3 := more_lt 0 (by omega) (c.data.toList.take k)
      have e1 : bits .xor .u32 (bits .xor .u32 (more 0 (a.data.toList.take k) : Int) (more 0 (b.data.toList.take k) : Int)) (more 0 (c.data.toList.take k) : Int) = (more 0 T.data.toList : Int) := by
        rw [u32_xor_nat _ _ hl1 hl2, u32_xor_nat _ _ (xor_lt hl1 hl2) hl3, HT.out, HM.out]
      rw [e1]
      go_wp2
      go_ret
      exact ⟨by simp, S3.1⟩
end Go.Proofs.Ythgjfnejcoadoaa
