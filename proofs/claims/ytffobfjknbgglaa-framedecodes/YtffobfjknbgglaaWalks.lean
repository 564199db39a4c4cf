/- Contracts of the program's small functions on frames: whether a frame may be, a number's word, the number of a word. Each answers the plain function's value. -/
import Derived.Test.YtffobfjknbgglaaSum
import Derived.Test.YtffobfjknbgglaaForm
import Derived.Test.YtffobfjknbgglaaFlat
import Derived.Laws.MakeOwn
import Derived.Laws.IdiomStrings
import Derived.BigRegion
import Derived.Shelf.Pu.Clone
namespace Go.Proofs.Ytffobfjknbgglaa
open Go.ChangeShapes Go.WideShapes Go.ChangeAt Go.RowKit
set_option linter.unusedVariables false

theorem mayBe_any (k f t : UInt8) (w : World) :
    Calls Try.prog 15 #[.int .u8 (k.toNat : Int), .int .u8 (f.toNat : Int), .int .u8 (t.toNat : Int)] w fun e w' => e = .returned (.bool (decide (fit k f t))) ∧ w' = w := by
  obtain ⟨d, hd⟩ : ∃ d, d = decide (fit k f t) := ⟨_, rfl⟩
  rw [← hd]
  unfold fit at hd
  generalize k.toNat = a at *
  generalize f.toNat = b at *
  generalize t.toNat = c at *
  by_cases h1 : (1 : Int) ≤ (a : Int)
  · by_cases h2 : (a : Int) ≤ 14
    · by_cases h3 : (b : Int) < 64
      · by_cases h4 : (c : Int) < 64
        · rw [decide_eq_true (by omega)] at hd
          subst hd
          go_enter Try.func15, Try.ntmps15
          go_wp2
          go_ret
          exact ⟨rfl, rfl⟩
        · rw [decide_eq_false (by omega)] at hd
          subst hd
          go_enter Try.func15, Try.ntmps15
          go_wp2
          go_ret
          exact ⟨rfl, rfl⟩
      · rw [decide_eq_false (by omega)] at hd
        subst hd
        go_enter Try.func15, Try.ntmps15
        go_wp2
        go_ret
        exact ⟨rfl, rfl⟩
    · rw [decide_eq_false (by omega)] at hd
      subst hd
      go_enter Try.func15, Try.ntmps15
      go_wp2
      go_ret
      exact ⟨rfl, rfl⟩
  · rw [decide_eq_false (by omega)] at hd
    subst hd
    go_enter Try.func15, Try.ntmps15
    go_wp2
    go_ret
    exact ⟨rfl, rfl⟩

theorem kept_below {w w' : World} (h : Below w.heap.size w w') : Kept w w' := kept_of h.os h.output h.size (fun i hi => h.block i hi)
/- A row of bytes in block B reads as a text. -/
theorem row_text {B n : Nat} {L : List UInt8} {w : World} (h : ∀ j (hj : j < L.length), w.cell? ⟨B, j, none⟩ = some (.int .u8 (L[j].toNat : Int))) (hL : L.length = n) (cap : Nat) :
    (convert 40 9 (.slice (some ⟨B, 0, none⟩) n cap)).run Try.prog w = .ok (.string ⟨L.toArray⟩) w := by
  have hcv := run_convert_bytes_back (P := Try.prog) w 40 9 5 ⟨B, 0, none⟩ cap L Try.underlying40 Try.underlying5 Try.underlying9 (fun j hj => by
    have := h j hj
    rcases Nat.eq_zero_or_pos j with h0 | h0
    · subst h0; simpa [Addr.add] using this
    · rw [show (⟨B, 0, none⟩ : Addr).add j = ⟨B, j, none⟩ by simp [Addr.add]; omega]; exact this)
  rw [hL] at hcv
  exact hcv
/- Four bytes in a block that is known whole. -/
theorem four_text {B : Nat} {w : World} {x0 x1 x2 x3 : Int} {o : Nat × Nat} (a b c d : UInt8) (h0 : x0 = (a.toNat : Int)) (h1 : x1 = (b.toNat : Int)) (h2 : x2 = (c.toNat : Int)) (h3 : x3 = (d.toNat : Int))
    (h : w.heap[B]? = some (.cells #[.int .u8 x0, .int .u8 x1, .int .u8 x2, .int .u8 x3] 5 o)) :
    (convert 40 9 (.slice (some ⟨B, 0, none⟩) 4 4)).run Try.prog w = .ok (.string ⟨#[a, b, c, d]⟩) w := by
  subst h0 h1 h2 h3
  refine row_text (L := [a, b, c, d]) ?_ rfl 4
  intro j hj
  unfold World.cell?
  rw [h]
  match j, hj with
  | 0, _ => rfl
  | 1, _ => rfl
  | 2, _ => rfl
  | 3, _ => rfl
theorem alloc_block (w : World) (o : Obj) : (w.alloc o).heap[w.heap.size]? = some o := by
  show (w.heap.push o)[w.heap.size]? = some o
  simp
theorem word_any (n : Nat) (hn : n < 4294967296) (w : World) :
    Calls Try.prog 16 #[.int .u32 (n : Int)] w fun e w' => e = .returned (.string ⟨(be4 n).toArray⟩) ∧ Below w.heap.size w w' := by
  have hcv := four_text (x0 := (n : Int) / 16777216) (x1 := (n : Int) / 65536 % 256) (x2 := (n : Int) / 256 % 256) (x3 := (n : Int) % 256)
    (UInt8.ofNat (n / 16777216)) (UInt8.ofNat (n / 65536)) (UInt8.ofNat (n / 256)) (UInt8.ofNat n)
    (by rw [ofNat_toNat]; omega) (by rw [ofNat_toNat]; omega) (by rw [ofNat_toNat]; omega) (by rw [ofNat_toNat]; omega) (alloc_block w (.cells #[.int .u8 ((n : Int) / 16777216), .int .u8 ((n : Int) / 65536 % 256), .int .u8 ((n : Int) / 256 % 256), .int .u8 ((n : Int) % 256)] 5))
  have hb := (Below.refl w.heap.size w).alloc (Nat.le_refl _) (.cells #[.int .u8 ((n : Int) / 16777216), .int .u8 ((n : Int) / 65536 % 256), .int .u8 ((n : Int) / 256 % 256), .int .u8 ((n : Int) % 256)] 5)
  have HB : Hid (Below w.heap.size w (w.alloc (.cells #[.int .u8 ((n : Int) / 16777216), .int .u8 ((n : Int) / 65536 % 256), .int .u8 ((n : Int) / 256 % 256), .int .u8 ((n : Int) % 256)] 5))) := hb
  clear hb
  go_enter Try.func16, Try.ntmps16
  go_wp2
  go_ret
  exact ⟨rfl, HB.out⟩

theorem take_next (l : List UInt8) (p k : Nat) (h : p + k < l.length) : (l.drop p).take (k + 1) = (l.drop p).take k ++ [l[p + k]] := by
  have hk : k < (l.drop p).length := by simp; omega
  rw [List.take_succ_eq_append_getElem hk]
  congr 2
  simp
theorem or_low (h c : Nat) (hc : c < 256) : h * 256 ||| c = h * 256 + c := by
  have := Nat.two_pow_add_eq_or_of_lt (i := 8) hc h
  rw [Nat.mul_comm]
  exact this.symm
set_option maxRecDepth 100000 in
theorem readWord_any (s : ByteArray) (p : Nat) (hs : s.size ≤ 140737488355328) (hp : p + 4 ≤ s.size) (w : World) :
    Calls Try.prog 25 #[.string s, .int .i64 (p : Int)] w fun e w' => e = .returned (.int .u32 (word4 s.data.toList p : Int)) ∧ w' = w := by
  have HW : Hid (word4 s.data.toList p = val ((s.data.toList.drop p).take 4)) := rfl
  generalize word4 s.data.toList p = R at *
  go_enter Try.func25, Try.ntmps25
  go_wp2
  go_loop [5, 7] (fun y j => ∃ k : Nat, k ≤ 4 ∧ j = .int .i64 k ∧ y = .int .u32 (val ((s.data.toList.drop p).take k) : Int)) (fun _ j => 4 - (intOf j).toNat)
  case atStart => exact ⟨0, Nat.zero_le _, rfl, rfl⟩
  case round =>
    obtain ⟨k, hk, rfl, rfl⟩ := hrel
    by_cases hlt : k < 4
    · have hlen : p + k < s.data.toList.length := by simp; show p + k < s.size; omega
      have hpk : p + k < s.size := by omega
      have HS : Hid (val ((s.data.toList.drop p).take (k + 1)) = val ((s.data.toList.drop p).take k) * 256 + s[p + k].toNat) := by
        show _ = _
        rw [take_next _ _ _ hlen, val_snoc]; rfl
      have hl := val_le3 ((s.data.toList.drop p).take k) (by simp; omega)
      generalize val ((s.data.toList.drop p).take k) = h at *
      have hc := u8_lt s[p + k]
      have HO : Hid (bits .or .u32 ((h : Int) * 256) (s[p + k].toNat : Int) = ((h * 256 + s[p + k].toNat : Nat) : Int)) := by
        have := u32_or_nat (h * 256) s[p + k].toNat (by omega) (by omega)
        rw [or_low h _ hc, Int.natCast_mul] at this
        exact this
      go_wp2
      go_round
      case rel => exact ⟨k + 1, by omega, by go_num, by rw [HS.out, HO.out]⟩
      case measure => simp [intOf]; omega
    · have hkk : k = 4 := by omega
      subst hkk
      go_wp2
      go_ret
      exact ⟨by rw [HW.out]; rfl, rfl⟩

/- Where the library's Clone and its types lie in this program. -/
def ren : Go.Shelf.Ren := ⟨fun x => if x = 25 then 26 else x, fun x => if x = 37 then 40 else if x = 47 then 75 else x, fun x => x⟩
theorem laid : Go.Proofs.LaysPu.n25 Try.prog ren :=
  { mixed := by kernel_rfl,
    f25 := by kernel_rfl,
    t0 := by kernel_rfl,
    a0 := fun _ => by kernel_rfl,
    z0 := fun _ => by kernel_rfl,
    v0 := fun _ => by kernel_rfl,
    i0 := by kernel_rfl,
    t3 := by kernel_rfl,
    a3 := fun _ => by kernel_rfl,
    z3 := fun _ => by kernel_rfl,
    v3 := fun _ => by kernel_rfl,
    i3 := by kernel_rfl,
    t4 := by kernel_rfl,
    a4 := fun _ => by kernel_rfl,
    z4 := fun _ => by kernel_rfl,
    v4 := fun _ => by kernel_rfl,
    i4 := by kernel_rfl,
    t5 := by kernel_rfl,
    a5 := fun _ => by kernel_rfl,
    z5 := fun _ => by kernel_rfl,
    v5 := fun _ => by kernel_rfl,
    i5 := by kernel_rfl,
    t9 := by kernel_rfl,
    a9 := fun _ => by kernel_rfl,
    z9 := fun _ => by kernel_rfl,
    v9 := fun _ => by kernel_rfl,
    i9 := by kernel_rfl,
    t37 := by kernel_rfl,
    a37 := fun _ => by kernel_rfl,
    z37 := fun _ => by kernel_rfl,
    v37 := fun _ => by kernel_rfl,
    i37 := by kernel_rfl,
    t47 := by kernel_rfl,
    a47 := fun _ => by kernel_rfl,
    z47 := fun _ => by kernel_rfl,
    v47 := fun _ => by kernel_rfl,
    i47 := by kernel_rfl }
theorem clone_inner (s : ByteArray) (hlim : s.size ≤ 140737488355328) (w : World) : Calls Try.prog 26 #[.string s] w fun e w' => e = .returned (.string s) ∧ Below w.heap.size w w' :=
  AnyPu.stringslite_Clone laid s w (by omega)
theorem clone_any (s : ByteArray) (hlim : s.size ≤ 140737488355328) (w : World) : Calls Try.prog 22 #[.string s] w fun e w' => e = .returned (.string s) ∧ Below w.heap.size w w' := by
  go_enter Try.func22, Try.ntmps22
  go_wp2_with (go_at_call 26; refine (clone_inner s hlim _).mono ?_; rintro e w1 ⟨rfl, hb1⟩)
  go_ret
  exact ⟨rfl, hb1⟩
end Go.Proofs.Ytffobfjknbgglaa
