/- Contracts of the New, More and Sum of the program's tables and of the reference's. A text has at most as many bytes as a text may have; a table is a new one, a made one or none. Plain mathematics of frames: how one is laid as a list of bytes, why a list of bytes is none, that both ways fit together, and that one byte turned is told. No condition but that a body has at most 2^20 bytes. Contracts of the program's small functions on frames: whether a frame may be, a number's word, the number of a word. Each answers the plain function's value. -/
import Derived.Test.YtioeidhblbfgmaaGreatY5
import Derived.Test.YtioeidhblbfgmaaGreatY2
import Derived.Deep.QuietTactic
import Derived.BigQuiet
import Derived.Laws.MakeOwn
import Derived.Laws.IdiomStrings
import Derived.BigRegion
import Derived.Shelf.Pu.Clone

namespace Go.Proofs.YtioeidhblbfgmaaGreat.Frm
open Go.ChangeShapes Go.WideShapes Go.ChangeAt Go.RowKit
set_option linter.unusedVariables false
set_option maxRecDepth 100000

def zeros : Array Value := #[.int .u32 0, .int .i32 0, .int .u32 0] ++ Array.replicate 256 (.int .u32 0)
theorem zero67 (w : World) : (zeroValue 153).run Tryz.prog w = .ok (.agg zeros) w := by kernel_rfl
set_option maxRecDepth 100000 in
theorem new_any (w : World) :
    Calls Tryz.prog 39 #[] w fun e w' => e = .returned (.pointer (some ⟨w.heap.size, 0, none⟩)) ∧ ∃ c, w' = w.alloc (.cells c 153) ∧ Fresh w.heap.size w' := by
  have hz := zero67
  go_enter Tryz.func39, Tryz.ntmps39
  go_wp2
  go_ret
  refine ⟨rfl, zeros, rfl, ?_⟩
  have hc : ∀ i, (w.alloc (.cells zeros 153)).cell? ⟨w.heap.size, i, none⟩ = zeros[i]? := fun i => by simp
  refine ⟨(hc 0).trans (by simp [zeros]), (hc 1).trans (by simp [zeros]), fun i hi => ⟨.int .u32 0, (hc _).trans ?_⟩, fun i => ?_⟩
  · rw [zeros, Array.getElem?_append_right (by simp <;> omega)]
    rw [Array.getElem?_replicate, if_pos (by simp only [List.size_toArray, List.length_cons, List.length_nil]; omega)]
  · rw [frozen?_alloc_cells]
    simp [World.frozen?]

theorem notx (x : Nat) (h : x < 4294967296) : bits .xor .u32 IntKind.u32.max (x : Int) = ((x ^^^ 4294967295 : Nat) : Int) := by
  have := u32_xor_nat 4294967295 x (by omega) h
  rw [Nat.xor_comm] at this
  exact this
theorem take_snoc (s : ByteArray) (k : Nat) (h : k < s.size) : s.data.toList.take (k + 1) = s.data.toList.take k ++ [s[k]] := by
  rw [List.take_succ_eq_append_getElem (by simpa using h)]; rfl
theorem more_nil (x : Int) (s : ByteArray) (w : World) :
    Calls Tryz.prog 50 #[.pointer none, .int .u32 x, .string s] w fun e w' => e = .returned (.int .u32 0) ∧ w' = w := by
  go_enter Tryz.func50, Tryz.ntmps50
  go_wp2
  go_ret
  exact ⟨rfl, rfl⟩
set_option maxRecDepth 100000 in
theorem more_any (b : Nat) (x : Nat) (hx : x < 4294967296) (s : ByteArray) (hs : s.size ≤ maxLen) (w : World) (h : Tab b w) :
    Calls Tryz.prog 50 #[.pointer (some ⟨b, 0, none⟩), .int .u32 x, .string s] w fun e w' => e = .returned (.int .u32 (more x s.data.toList)) ∧ Only b w w' ∧ Made b w' := by
  unfold maxLen at hs
  have HH : Hid (Tab b w) := h
  clear h
  have hn := notx x hx
  have hx1 : x ^^^ 4294967295 < 4294967296 := xor_lt hx (by omega)
  have HM : Hid (more x s.data.toList = fol (x ^^^ 4294967295) s.data.toList ^^^ 4294967295) := rfl
  generalize more x s.data.toList = R at *
  generalize x ^^^ 4294967295 = x1 at *
  go_enter Tryz.func50, Tryz.ntmps50
  go_wp2_with (go_at_call 88; refine (made_any b _ HH.out).mono ?_; rintro e w1 ⟨rfl, hO1, hM1⟩)
  have HO1 : Hid (Only b w w1) := hO1
  have HM1 : Hid (Made b w1) := hM1
  clear hO1 hM1
  go_loopw [8, 18] (fun y j wr => ∃ k : Nat, k ≤ s.size ∧ j = .int .i64 k ∧ y = .int .u32 (fol x1 (s.data.toList.take k)) ∧ Hid (Only b w wr) ∧ Hid (Made b wr)) (fun _ j _ => s.size - (intOf j).toNat)
  case atStart => exact ⟨0, Nat.zero_le _, rfl, rfl, HO1, HM1⟩
  case round =>
    obtain ⟨k, hk, rfl, rfl, HO, HD⟩ := hrel
    by_cases hlt : k < s.size
    · have HS : Hid (fol x1 (s.data.toList.take (k + 1)) = eig (fol x1 (s.data.toList.take k) ^^^ s[k].toNat)) := by
        show _ = _
        rw [take_snoc s k hlt, fol_snoc]
      have hy := fol_lt (s.data.toList.take k) hx1
      generalize hh : fol x1 (s.data.toList.take k) = y at *
      clear hh
      have hc := u8_lt s[k]
      obtain ⟨m, hm, hwb⟩ : ∃ m : Nat, m = y % 256 ∧ IntKind.u8.wrap (y : Int) = (m : Int) := ⟨y % 256, rfl, by rw [IntKind.wrap_u8]; omega⟩
      have hm256 : m < 256 := by omega
      obtain ⟨i, hi, hxb⟩ : ∃ i : Nat, i = m ^^^ s[k].toNat ∧ bits .xor .u8 (m : Int) (s[k].toNat : Int) = (i : Int) := ⟨_, rfl, u8_xor_nat _ _ hm256 hc⟩
      have hi256 : i < 256 := by rw [hi]; exact Nat.xor_lt_two_pow (n := 8) hm256 hc
      have hcell := HD.out.2 i hi256
      have HE : Hid (eig (y ^^^ s[k].toNat) = eig i ^^^ y / 256) := by
        show _ = _
        rw [eig_table, hi, hm]
      have HX : Hid (bits .xor .u32 (eig i : Int) ((y : Int) / 256) = ((eig i ^^^ y / 256 : Nat) : Int)) := u32_xor_nat _ (y / 256) (eig_lt (by omega)) (by omega)
      have hm' : Hid (m = y % 256) := hm
      have hi' : Hid (i = m ^^^ s[k].toNat) := hi
      clear hm hi hc
      go_wp2
      go_quiet (fail)
      go_wp2
      go_roundw
      case rel => exact ⟨k + 1, by omega, by go_num, by rw [HS.out, HE.out, HX.out], HO, HD⟩
      case measure => simp [intOf]; omega
    · have hkk : k = s.size := by omega
      subst hkk
      rw [List.take_of_length_le (by simp)]
      have hn := notx _ (fol_lt s.data.toList hx1)
      go_wp2
      go_ret
      exact ⟨by rw [HM.out]; rfl, HO.out, HD.out⟩

theorem sum_nil (s : ByteArray) (w : World) :
    Calls Tryz.prog 51 #[.pointer none, .string s] w fun e w' => e = .returned (.int .u32 0) ∧ w' = w := by
  go_enter Tryz.func51, Tryz.ntmps51
  go_wp2_with (go_at_call 50; refine (more_nil _ _ _).mono ?_; rintro e w' ⟨rfl, rfl⟩)
  go_ret
  exact ⟨rfl, rfl⟩
theorem sum_any (b : Nat) (s : ByteArray) (hs : s.size ≤ maxLen) (w : World) (h : Tab b w) :
    Calls Tryz.prog 51 #[.pointer (some ⟨b, 0, none⟩), .string s] w fun e w' => e = .returned (.int .u32 (more 0 s.data.toList)) ∧ Only b w w' ∧ Made b w' := by
  have HH : Hid (Tab b w) := h
  clear h
  go_enter Tryz.func51, Tryz.ntmps51
  go_wp2_with (go_at_call 50; refine (more_any b 0 (by omega) s hs _ HH.out).mono ?_; rintro e w' ⟨rfl, hO, hM⟩)
  go_ret
  exact ⟨rfl, hO, hM⟩
theorem refmore_any (x : Nat) (hx : x < 4294967296) (s : ByteArray) (hs : s.size ≤ maxLen) (w : World) :
    Calls Tryz.prog 93 #[.int .u32 x, .string s] w fun e w' => e = .returned (.int .u32 (more x s.data.toList)) ∧ w' = w := by
  unfold maxLen at hs
  have hn : bits .xor .u32 (x : Int) 4294967295 = ((x ^^^ 4294967295 : Nat) : Int) := u32_xor_nat x 4294967295 hx (by omega)
  have hx1 : x ^^^ 4294967295 < 4294967296 := xor_lt hx (by omega)
  have HM : Hid (more x s.data.toList = fol (x ^^^ 4294967295) s.data.toList ^^^ 4294967295) := rfl
  generalize more x s.data.toList = R at *
  generalize x ^^^ 4294967295 = x1 at *
  go_enter Tryz.func93, Tryz.ntmps93
  go_wp2
  go_loop [5, 6] (fun y j => ∃ k : Nat, k ≤ s.size ∧ j = .int .i64 k ∧ y = .int .u32 (fol x1 (s.data.toList.take k))) (fun _ j => s.size - (intOf j).toNat)
  case atStart => exact ⟨0, Nat.zero_le _, rfl, rfl⟩
  case round =>
    obtain ⟨k, hk, rfl, rfl⟩ := hrel
    by_cases hlt : k < s.size
    · have HS : Hid (fol x1 (s.data.toList.take (k + 1)) = eig (fol x1 (s.data.toList.take k) ^^^ s[k].toNat)) := by
        show _ = _
        rw [take_snoc s k hlt, fol_snoc]
      have hy := fol_lt (s.data.toList.take k) hx1
      generalize hh : fol x1 (s.data.toList.take k) = y at *
      clear hh
      have hc := u8_lt s[k]
      have hw2 : IntKind.u32.wrap (s[k].toNat : Int) = (s[k].toNat : Int) := by rw [IntKind.wrap_u32]; omega
      have hz : y ^^^ s[k].toNat < 4294967296 := xor_lt hy (by omega)
      have hxx : bits .xor .u32 (y : Int) (s[k].toNat : Int) = ((y ^^^ s[k].toNat : Nat) : Int) := u32_xor_nat _ _ hy (by omega)
      generalize y ^^^ s[k].toNat = z at *
      go_wp2_with (go_at_call 119; refine (refeight_any z hz _).mono ?_; rintro e w' ⟨rfl, rfl⟩)
      go_round
      case rel => exact ⟨k + 1, by omega, by go_num, by rw [HS.out]⟩
      case measure => simp [intOf]; omega
    · have hkk : k = s.size := by omega
      subst hkk
      rw [List.take_of_length_le (by simp)]
      have hm : bits .xor .u32 (fol x1 s.data.toList : Int) 4294967295 = ((fol x1 s.data.toList ^^^ 4294967295 : Nat) : Int) := u32_xor_nat _ 4294967295 (fol_lt s.data.toList hx1) (by omega)
      go_wp2
      go_ret
      exact ⟨by rw [HM.out]; rfl, rfl⟩
theorem refsum_any (s : ByteArray) (hs : s.size ≤ maxLen) (w : World) :
    Calls Tryz.prog 66 #[.string s] w fun e w' => e = .returned (.int .u32 (more 0 s.data.toList)) ∧ w' = w := by
  go_enter Tryz.func66, Tryz.ntmps66
  go_wp2_with (go_at_call 93; refine (refmore_any 0 (by omega) s hs _).mono ?_; rintro e w' ⟨rfl, rfl⟩)
  go_ret
  exact ⟨rfl, rfl⟩
end Go.Proofs.YtioeidhblbfgmaaGreat.Frm


namespace Go.Proofs.YtioeidhblbfgmaaGreat.Frm

def be4 (n : Nat) : List UInt8 := [UInt8.ofNat (n / 16777216), UInt8.ofNat (n / 65536), UInt8.ofNat (n / 256), UInt8.ofNat n]
def val (l : List UInt8) : Nat := l.foldl (fun a c => a * 256 + c.toNat) 0
abbrev fit (k f t : UInt8) : Prop := 1 ≤ k.toNat ∧ k.toNat ≤ 14 ∧ f.toNat < 64 ∧ t.toNat < 64
def front (k f t : UInt8) (b : List UInt8) : List UInt8 := [1, k, f, t] ++ be4 b.length ++ b
def lay (k f t : UInt8) (b : List UInt8) : List UInt8 := front k f t b ++ be4 (more 0 (front k f t b))
def word4 (l : List UInt8) (p : Nat) : Nat := val ((l.drop p).take 4)
def at_ (l : List UInt8) (p : Nat) : UInt8 := l.getD p 0
def why (l : List UInt8) : Nat :=
  if l.length < 12 then 2
  else if ¬ (at_ l 0 = 1 ∧ fit (at_ l 1) (at_ l 2) (at_ l 3)) then 3
  else if 1048576 < word4 l 4 then 4
  else if l.length < 12 + word4 l 4 then 2
  else if 12 + word4 l 4 < l.length then 3
  else if word4 l (8 + word4 l 4) ≠ more 0 (l.take (8 + word4 l 4)) then 5
  else 0

theorem ofNat_toNat (R : Nat) : (UInt8.ofNat R).toNat = R % 256 := by simp
theorem be4_length (n : Nat) : (be4 n).length = 4 := rfl
theorem val_four (a b c d : UInt8) : val [a, b, c, d] = ((a.toNat * 256 + b.toNat) * 256 + c.toNat) * 256 + d.toNat := by
  simp [val]
theorem val_be4 (n : Nat) (h : n < 4294967296) : val (be4 n) = n := by
  unfold be4
  rw [val_four, ofNat_toNat, ofNat_toNat, ofNat_toNat, ofNat_toNat]
  omega
theorem be4_inj {m n : Nat} (hm : m < 4294967296) (hn : n < 4294967296) (h : be4 m = be4 n) : m = n := by
  rw [← val_be4 m hm, ← val_be4 n hn, h]
theorem be4_four (a b c d : UInt8) : be4 (val [a, b, c, d]) = [a, b, c, d] := by
  have ha := a.toNat_lt
  have hb := b.toNat_lt
  have hc := c.toNat_lt
  have hd := d.toNat_lt
  unfold be4
  rw [val_four]
  congr 1
  · apply UInt8.toNat_inj.1; rw [ofNat_toNat]; omega
  congr 1
  · apply UInt8.toNat_inj.1; rw [ofNat_toNat]; omega
  congr 1
  · apply UInt8.toNat_inj.1; rw [ofNat_toNat]; omega
  congr 1
  apply UInt8.toNat_inj.1; rw [ofNat_toNat]; omega
theorem four_cases (l : List UInt8) (h : l.length = 4) : ∃ a b c d, l = [a, b, c, d] := by
  match l, h with
  | [a, b, c, d], _ => exact ⟨a, b, c, d, rfl⟩
theorem be4_val (l : List UInt8) (h : l.length = 4) : be4 (val l) = l := by
  obtain ⟨a, b, c, d, rfl⟩ := four_cases l h
  exact be4_four a b c d
theorem val_snoc (l : List UInt8) (c : UInt8) : val (l ++ [c]) = val l * 256 + c.toNat := by
  unfold val; rw [List.foldl_append]; rfl
theorem val_le3 (l : List UInt8) (h : l.length ≤ 3) : val l < 16777216 := by
  match l, h with
  | [], _ => simp [val]
  | [a], _ => have := a.toNat_lt; simp [val]; omega
  | [a, b], _ => have := a.toNat_lt; have := b.toNat_lt; simp [val]; omega
  | [a, b, c], _ => have := a.toNat_lt; have := b.toNat_lt; have := c.toNat_lt; simp [val]; omega
theorem val_le4 (l : List UInt8) (h : l.length ≤ 4) : val l < 4294967296 := by
  by_cases h4 : l.length = 4
  · obtain ⟨a, b, c, d, rfl⟩ := four_cases l h4
    have := a.toNat_lt; have := b.toNat_lt; have := c.toNat_lt; have := d.toNat_lt
    rw [val_four]; omega
  · have := val_le3 l (by omega); omega
theorem word4_lt (l : List UInt8) (p : Nat) : word4 l p < 4294967296 := val_le4 _ (by simp; omega)

theorem front_length (k f t : UInt8) (b : List UInt8) : (front k f t b).length = 8 + b.length := by
  simp [front, be4_length]; omega
theorem lay_length (k f t : UInt8) (b : List UInt8) : (lay k f t b).length = 12 + b.length := by
  simp [lay, front_length, be4_length]; omega
theorem more_small (l : List UInt8) : more 0 l < 4294967296 := more_lt 0 (by omega) l
theorem more_set (l : List UInt8) (p : Nat) (hp : p < l.length) (c : UInt8) (hc : c ≠ l[p]) : more 0 (l.set p c) ≠ more 0 l := by
  rw [List.set_eq_take_append_cons_drop, if_pos hp]
  have e : l = l.take p ++ l[p] :: l.drop (p + 1) := by rw [List.getElem_cons_drop, List.take_append_drop]
  intro h
  exact more_one (x := 0) (by omega) (l.take p) (l.drop (p + 1)) hc (h.trans (congrArg _ e))

theorem eight_cases (l : List UInt8) (h : 8 ≤ l.length) : ∃ a b c d e f g i r, l = a :: b :: c :: d :: e :: f :: g :: i :: r := by
  match l, h with
  | a :: b :: c :: d :: e :: f :: g :: i :: r, _ => exact ⟨a, b, c, d, e, f, g, i, r, rfl⟩
/- What a list of bytes is made of, if its first byte is the version and it has as many bytes as it says. -/
theorem parts (l : List UInt8) (h0 : at_ l 0 = 1) (hn : l.length = 12 + word4 l 4) :
    front (at_ l 1) (at_ l 2) (at_ l 3) ((l.drop 8).take (word4 l 4)) = l.take (8 + word4 l 4) ∧ l = l.take (8 + word4 l 4) ++ be4 (word4 l (8 + word4 l 4)) := by
  obtain ⟨a0, a1, a2, a3, a4, a5, a6, a7, r, rfl⟩ := eight_cases l (by omega)
  have e4 : word4 (a0 :: a1 :: a2 :: a3 :: a4 :: a5 :: a6 :: a7 :: r) 4 = val [a4, a5, a6, a7] := rfl
  rw [e4] at hn ⊢
  have hb : be4 (val [a4, a5, a6, a7]) = [a4, a5, a6, a7] := be4_four _ _ _ _
  generalize val [a4, a5, a6, a7] = n at *
  have hr : r.length = n + 4 := by simp at hn; omega
  have h0' : a0 = 1 := h0
  subst h0'
  have e8 : word4 (1 :: a1 :: a2 :: a3 :: a4 :: a5 :: a6 :: a7 :: r) (8 + n) = val (r.drop n) := by
    unfold word4
    rw [show 8 + n = n + 8 by omega]
    simp only [List.drop_succ_cons]
    rw [List.take_of_length_le (by simp; omega)]
  have et : (1 :: a1 :: a2 :: a3 :: a4 :: a5 :: a6 :: a7 :: r).take (8 + n) = 1 :: a1 :: a2 :: a3 :: a4 :: a5 :: a6 :: a7 :: r.take n := by
    rw [show 8 + n = n + 8 by omega]; rfl
  have ed : ((1 :: a1 :: a2 :: a3 :: a4 :: a5 :: a6 :: a7 :: r).drop 8).take n = r.take n := rfl
  have el : (r.take n).length = n := by simp; omega
  refine ⟨?_, ?_⟩
  · rw [et, ed, front, el, hb]; rfl
  · rw [e8, et, be4_val _ (by simp; omega)]
    simp only [List.cons_append, List.take_append_drop]
theorem body_take (l : List UInt8) (hn : l.length = 12 + word4 l 4) : (l.drop 8).take (l.length - 12) = (l.drop 8).take (word4 l 4) := by
  rw [hn]; congr 1; omega
theorem body_length (l : List UInt8) (hn : l.length = 12 + word4 l 4) : ((l.drop 8).take (word4 l 4)).length = word4 l 4 := by
  simp; omega
/- The last test, in the reference's form. -/
theorem last_test (l : List UInt8) (h0 : at_ l 0 = 1) (hn : l.length = 12 + word4 l 4) :
    lay (at_ l 1) (at_ l 2) (at_ l 3) ((l.drop 8).take (word4 l 4)) = l ↔ word4 l (8 + word4 l 4) = more 0 (l.take (8 + word4 l 4)) := by
  obtain ⟨h1, h2⟩ := parts l h0 hn
  rw [lay, h1]
  constructor
  · intro h
    have := h.trans h2
    exact (be4_inj (more_small _) (word4_lt _ _) (List.append_cancel_left this)).symm
  · intro h
    rw [← h]; exact h2.symm
theorem why_zero (l : List UInt8) (h : why l = 0) :
    12 ≤ l.length ∧ at_ l 0 = 1 ∧ fit (at_ l 1) (at_ l 2) (at_ l 3) ∧ word4 l 4 ≤ 1048576 ∧ l.length = 12 + word4 l 4 ∧ lay (at_ l 1) (at_ l 2) (at_ l 3) ((l.drop 8).take (word4 l 4)) = l := by
  unfold why at h
  split at h
  · omega
  rename_i h1
  split at h
  · omega
  rename_i h2
  split at h
  · omega
  rename_i h3
  split at h
  · omega
  rename_i h4
  split at h
  · omega
  rename_i h5
  split at h
  · omega
  rename_i h6
  have h2 := Decidable.not_not.1 h2
  have hn : l.length = 12 + word4 l 4 := by omega
  exact ⟨by omega, h2.1, h2.2, by omega, hn, (last_test l h2.1 hn).2 (Decidable.not_not.1 h6)⟩
theorem why_pre (k f t : UInt8) (n : Nat) (r : List UInt8) (hf : fit k f t) (hn : n ≤ 1048576) :
    why ([1, k, f, t] ++ be4 n ++ r) = if r.length < 4 then 2 else if r.length < 4 + n then 2 else if 4 + n < r.length then 3 else if val ((r.drop n).take 4) ≠ more 0 ([1, k, f, t] ++ be4 n ++ r.take n) then 5 else 0 := by
  have e4 : word4 ([1, k, f, t] ++ be4 n ++ r) 4 = n := by
    show val (be4 n) = n
    exact val_be4 n (by omega)
  have el : ([1, k, f, t] ++ be4 n ++ r).length = 8 + r.length := by simp [be4_length]; omega
  have e8 : word4 ([1, k, f, t] ++ be4 n ++ r) (8 + n) = val ((r.drop n).take 4) := by
    unfold word4
    rw [show 8 + n = n + 8 by omega]
    rfl
  have et : ([1, k, f, t] ++ be4 n ++ r).take (8 + n) = [1, k, f, t] ++ be4 n ++ r.take n := by
    rw [show 8 + n = n + 8 by omega]; rfl
  unfold why
  rw [e4, el, e8, et]
  by_cases h1 : r.length < 4
  · rw [if_pos (by omega), if_pos h1]
  rw [if_neg (by omega), if_neg h1, if_neg (Decidable.not_not.2 ⟨rfl, hf⟩), if_neg (by omega)]
  by_cases h2 : r.length < 4 + n
  · rw [if_pos (by omega), if_pos h2]
  rw [if_neg (by omega), if_neg h2]
  by_cases h3 : 4 + n < r.length
  · rw [if_pos (by omega), if_pos h3]
  rw [if_neg (by omega), if_neg h3]
theorem why_lay (k f t : UInt8) (b : List UInt8) (hf : fit k f t) (hb : b.length ≤ 1048576) : why (lay k f t b) = 0 := by
  have e : lay k f t b = [1, k, f, t] ++ be4 b.length ++ (b ++ be4 (more 0 (front k f t b))) := by
    rw [lay, front, List.append_assoc]
  rw [e, why_pre k f t b.length _ hf hb]
  have hl : (b ++ be4 (more 0 (front k f t b))).length = b.length + 4 := by rw [List.length_append, be4_length]
  rw [if_neg (by omega), if_neg (by omega), if_neg (by omega), List.drop_left, List.take_left]
  rw [List.take_of_length_le (by rw [be4_length]; exact Nat.le_refl _), val_be4 _ (more_small _)]
  rw [if_neg]
  intro h
  exact h rfl
theorem why_two (k f t : UInt8) (b m : List UInt8) (hf : fit k f t) (hb : b.length ≤ 1048576) (hm : 0 < m.length) : why (lay k f t b ++ m) = 3 := by
  have e : lay k f t b ++ m = [1, k, f, t] ++ be4 b.length ++ (b ++ be4 (more 0 (front k f t b)) ++ m) := by
    rw [lay, front]; simp only [List.append_assoc]
  rw [e, why_pre k f t b.length _ hf hb]
  have hl : (b ++ be4 (more 0 (front k f t b)) ++ m).length = b.length + 4 + m.length := by rw [List.length_append, List.length_append, be4_length]
  rw [if_neg (by omega), if_neg (by omega), if_pos (by omega)]
theorem why_take (k f t : UInt8) (b : List UInt8) (hf : fit k f t) (hb : b.length ≤ 1048576) (m : Nat) (hm : m < (lay k f t b).length) : why ((lay k f t b).take m) = 2 := by
  have hll := lay_length k f t b
  by_cases h8 : m < 8
  · unfold why
    rw [if_pos (by simp; omega)]
  have e : (lay k f t b).take m = [1, k, f, t] ++ be4 b.length ++ (b ++ be4 (more 0 (front k f t b))).take (m - 8) := by
    rw [lay, front]
    rw [List.append_assoc ([1, k, f, t] ++ be4 b.length), List.take_append, List.take_of_length_le (by simp [be4_length]; omega)]
    congr 1
  rw [e, why_pre k f t b.length _ hf hb]
  have hl : ((b ++ be4 (more 0 (front k f t b))).take (m - 8)).length = m - 8 := by rw [List.length_take, List.length_append, be4_length]; omega
  rw [hl]
  by_cases h1 : m - 8 < 4
  · rw [if_pos h1]
  · rw [if_neg h1, if_pos (by omega)]
theorem lay_parts (k f t : UInt8) (b : List UInt8) : at_ (lay k f t b) 1 = k ∧ at_ (lay k f t b) 2 = f ∧ at_ (lay k f t b) 3 = t ∧ ((lay k f t b).drop 8).take ((lay k f t b).length - 12) = b := by
  refine ⟨rfl, rfl, rfl, ?_⟩
  rw [lay_length, lay, front]
  have : ([1, k, f, t] ++ be4 b.length ++ b ++ be4 (more 0 ([1, k, f, t] ++ be4 b.length ++ b))).drop 8 = b ++ be4 (more 0 ([1, k, f, t] ++ be4 b.length ++ b)) := rfl
  rw [this, show 12 + b.length - 12 = b.length by omega, List.take_left]
theorem why_set (k f t : UInt8) (b : List UInt8) (p : Nat) (hp : p < (lay k f t b).length) (c : UInt8) (hc : c ≠ (lay k f t b)[p]) : why ((lay k f t b).set p c) ≠ 0 := by
  intro h
  obtain ⟨_, _, _, _, hn, he⟩ := why_zero _ h
  generalize hk : at_ ((lay k f t b).set p c) 1 = k' at *
  generalize hf : at_ ((lay k f t b).set p c) 2 = f' at *
  generalize ht : at_ ((lay k f t b).set p c) 3 = t' at *
  generalize hb : List.take (word4 ((lay k f t b).set p c) 4) (List.drop 8 ((lay k f t b).set p c)) = b' at *
  clear hk hf ht
  have hbl : b'.length = b.length := by
    have := congrArg List.length he
    rw [lay_length, List.length_set, lay_length] at this
    omega
  have hF := front_length k f t b
  have hF' := front_length k' f' t' b'
  by_cases hp8 : p < (front k f t b).length
  · have e : (lay k f t b).set p c = (front k f t b).set p c ++ be4 (more 0 (front k f t b)) := by
      rw [lay, List.set_append_left _ _ hp8]
    rw [e, lay] at he
    obtain ⟨e1, e2⟩ := List.append_inj he (by rw [List.length_set]; omega)
    have e3 := be4_inj (more_small _) (more_small _) e2
    rw [e1] at e3
    refine more_set _ p hp8 c ?_ e3
    intro h2
    apply hc
    rw [h2]
    simp only [lay]
    rw [List.getElem_append_left hp8]
  · have e : (lay k f t b).set p c = front k f t b ++ (be4 (more 0 (front k f t b))).set (p - (front k f t b).length) c := by
      rw [lay, List.set_append_right _ _ (by omega)]
    have e0 := e
    rw [e, lay] at he
    obtain ⟨e1, e2⟩ := List.append_inj he (by omega)
    rw [e1] at e2
    rw [← e2] at e0
    have : ((lay k f t b).set p c)[p]'(by rw [List.length_set]; exact hp) = (lay k f t b)[p] := by
      simp only [e0]; rfl
    rw [List.getElem_set_self] at this
    exact hc this
end Go.Proofs.YtioeidhblbfgmaaGreat.Frm


namespace Go.Proofs.YtioeidhblbfgmaaGreat.Frm
open Go.ChangeShapes Go.WideShapes Go.ChangeAt Go.RowKit
set_option linter.unusedVariables false
set_option maxRecDepth 100000

theorem mayBe_any (k f t : UInt8) (w : World) :
    Calls Tryz.prog 48 #[.int .u8 (k.toNat : Int), .int .u8 (f.toNat : Int), .int .u8 (t.toNat : Int)] w fun e w' => e = .returned (.bool (decide (fit k f t))) ∧ w' = w := by
  obtain ⟨d, hd⟩ : ∃ d, d = decide (fit k f t) := ⟨_, rfl⟩
  rw [← hd]
  unfold fit at hd
  generalize k.toNat = a at *
  generalize f.toNat = b at *
  generalize t.toNat = c at *
  by_cases h1 : (1 : Int) ≤ (a : Int)
  · by_cases h2 : (a : Int) ≤ 14
    · by_cases h3 : (b : Int) < 64
      · by_cases h4 : (c : Int) < 64
        · rw [decide_eq_true (by omega)] at hd
          subst hd
          go_enter Tryz.func48, Tryz.ntmps48
          go_wp2
          go_ret
          exact ⟨rfl, rfl⟩
        · rw [decide_eq_false (by omega)] at hd
          subst hd
          go_enter Tryz.func48, Tryz.ntmps48
          go_wp2
          go_ret
          exact ⟨rfl, rfl⟩
      · rw [decide_eq_false (by omega)] at hd
        subst hd
        go_enter Tryz.func48, Tryz.ntmps48
        go_wp2
        go_ret
        exact ⟨rfl, rfl⟩
    · rw [decide_eq_false (by omega)] at hd
      subst hd
      go_enter Tryz.func48, Tryz.ntmps48
      go_wp2
      go_ret
      exact ⟨rfl, rfl⟩
  · rw [decide_eq_false (by omega)] at hd
    subst hd
    go_enter Tryz.func48, Tryz.ntmps48
    go_wp2
    go_ret
    exact ⟨rfl, rfl⟩

theorem kept_below {w w' : World} (h : Below w.heap.size w w') : Kept w w' := kept_of h.os h.output h.size (fun i hi => h.block i hi)
/- A row of bytes in block B reads as a text. -/
theorem row_text {B n : Nat} {L : List UInt8} {w : World} (h : ∀ j (hj : j < L.length), w.cell? ⟨B, j, none⟩ = some (.int .u8 (L[j].toNat : Int))) (hL : L.length = n) (cap : Nat) :
    (convert 51 9 (.slice (some ⟨B, 0, none⟩) n cap)).run Tryz.prog w = .ok (.string ⟨L.toArray⟩) w := by
  have hcv := run_convert_bytes_back (P := Tryz.prog) w 51 9 5 ⟨B, 0, none⟩ cap L Tryz.underlying51 Tryz.underlying5 Tryz.underlying9 (fun j hj => by
    have := h j hj
    rcases Nat.eq_zero_or_pos j with h0 | h0
    · subst h0; simpa [Addr.add] using this
    · rw [show (⟨B, 0, none⟩ : Addr).add j = ⟨B, j, none⟩ by simp [Addr.add]; omega]; exact this)
  rw [hL] at hcv
  exact hcv
/- Four bytes in a block that is known whole. -/
theorem four_text {B : Nat} {w : World} {x0 x1 x2 x3 : Int} {o : Nat × Nat} (a b c d : UInt8) (h0 : x0 = (a.toNat : Int)) (h1 : x1 = (b.toNat : Int)) (h2 : x2 = (c.toNat : Int)) (h3 : x3 = (d.toNat : Int))
    (h : w.heap[B]? = some (.cells #[.int .u8 x0, .int .u8 x1, .int .u8 x2, .int .u8 x3] 5 o)) :
    (convert 51 9 (.slice (some ⟨B, 0, none⟩) 4 4)).run Tryz.prog w = .ok (.string ⟨#[a, b, c, d]⟩) w := by
  subst h0 h1 h2 h3
  refine row_text (L := [a, b, c, d]) ?_ rfl 4
  intro j hj
  unfold World.cell?
  rw [h]
  match j, hj with
  | 0, _ => rfl
  | 1, _ => rfl
  | 2, _ => rfl
  | 3, _ => rfl
theorem alloc_block (w : World) (o : Obj) : (w.alloc o).heap[w.heap.size]? = some o := by
  show (w.heap.push o)[w.heap.size]? = some o
  simp
theorem word_any (n : Nat) (hn : n < 4294967296) (w : World) :
    Calls Tryz.prog 49 #[.int .u32 (n : Int)] w fun e w' => e = .returned (.string ⟨(be4 n).toArray⟩) ∧ Below w.heap.size w w' := by
  have hcv := four_text (x0 := (n : Int) / 16777216) (x1 := (n : Int) / 65536 % 256) (x2 := (n : Int) / 256 % 256) (x3 := (n : Int) % 256)
    (UInt8.ofNat (n / 16777216)) (UInt8.ofNat (n / 65536)) (UInt8.ofNat (n / 256)) (UInt8.ofNat n)
    (by rw [ofNat_toNat]; omega) (by rw [ofNat_toNat]; omega) (by rw [ofNat_toNat]; omega) (by rw [ofNat_toNat]; omega) (alloc_block w (.cells #[.int .u8 ((n : Int) / 16777216), .int .u8 ((n : Int) / 65536 % 256), .int .u8 ((n : Int) / 256 % 256), .int .u8 ((n : Int) % 256)] 5))
  have hb := (Below.refl w.heap.size w).alloc (Nat.le_refl _) (.cells #[.int .u8 ((n : Int) / 16777216), .int .u8 ((n : Int) / 65536 % 256), .int .u8 ((n : Int) / 256 % 256), .int .u8 ((n : Int) % 256)] 5)
  have HB : Hid (Below w.heap.size w (w.alloc (.cells #[.int .u8 ((n : Int) / 16777216), .int .u8 ((n : Int) / 65536 % 256), .int .u8 ((n : Int) / 256 % 256), .int .u8 ((n : Int) % 256)] 5))) := hb
  clear hb
  go_enter Tryz.func49, Tryz.ntmps49
  go_wp2
  go_ret
  exact ⟨rfl, HB.out⟩

theorem take_next (l : List UInt8) (p k : Nat) (h : p + k < l.length) : (l.drop p).take (k + 1) = (l.drop p).take k ++ [l[p + k]] := by
  have hk : k < (l.drop p).length := by simp; omega
  rw [List.take_succ_eq_append_getElem hk]
  congr 2
  simp
theorem or_low (h c : Nat) (hc : c < 256) : h * 256 ||| c = h * 256 + c := by
  have := Nat.two_pow_add_eq_or_of_lt (i := 8) hc h
  rw [Nat.mul_comm]
  exact this.symm
set_option maxRecDepth 100000 in
theorem readWord_any (s : ByteArray) (p : Nat) (hs : s.size ≤ 140737488355328) (hp : p + 4 ≤ s.size) (w : World) :
    Calls Tryz.prog 95 #[.string s, .int .i64 (p : Int)] w fun e w' => e = .returned (.int .u32 (word4 s.data.toList p : Int)) ∧ w' = w := by
  have HW : Hid (word4 s.data.toList p = val ((s.data.toList.drop p).take 4)) := rfl
  generalize word4 s.data.toList p = R at *
  go_enter Tryz.func95, Tryz.ntmps95
  go_wp2
  go_loop [5, 7] (fun y j => ∃ k : Nat, k ≤ 4 ∧ j = .int .i64 k ∧ y = .int .u32 (val ((s.data.toList.drop p).take k) : Int)) (fun _ j => 4 - (intOf j).toNat)
  case atStart => exact ⟨0, Nat.zero_le _, rfl, rfl⟩
  case round =>
    obtain ⟨k, hk, rfl, rfl⟩ := hrel
    by_cases hlt : k < 4
    · have hlen : p + k < s.data.toList.length := by simp; show p + k < s.size; omega
      have hpk : p + k < s.size := by omega
      have HS : Hid (val ((s.data.toList.drop p).take (k + 1)) = val ((s.data.toList.drop p).take k) * 256 + s[p + k].toNat) := by
        show _ = _
        rw [take_next _ _ _ hlen, val_snoc]; rfl
      have hl := val_le3 ((s.data.toList.drop p).take k) (by simp; omega)
      generalize val ((s.data.toList.drop p).take k) = h at *
      have hc := u8_lt s[p + k]
      have HO : Hid (bits .or .u32 ((h : Int) * 256) (s[p + k].toNat : Int) = ((h * 256 + s[p + k].toNat : Nat) : Int)) := by
        have := u32_or_nat (h * 256) s[p + k].toNat (by omega) (by omega)
        rw [or_low h _ hc, Int.natCast_mul] at this
        exact this
      go_wp2
      go_round
      case rel => exact ⟨k + 1, by omega, by go_num, by rw [HS.out, HO.out]⟩
      case measure => simp [intOf]; omega
    · have hkk : k = 4 := by omega
      subst hkk
      go_wp2
      go_ret
      exact ⟨by rw [HW.out]; rfl, rfl⟩

/- Where the library's Clone and its types lie in this program. -/




end Go.Proofs.YtioeidhblbfgmaaGreat.Frm
