/- The contracts of the library's strings.IndexByte at a line feed, strings.TrimSuffix at a return, strings.Cut at a line feed. They turn nothing. The text has at most 2^32 bytes. -/
import Derived.Test.YtjlojkcdglocbaaFeedMath
import Derived.Lib.Bytealg
import Derived.Shelf.Strings.Search1
import Derived.Lib.Walk
import Derived.Lib.Strings
import Derived.Lib.Slices
import Derived.Laws.Strings3
import Derived.BigQuiet
namespace Go.Proofs.Ytjlojkcdglocbaa
open Go.ChangeShapes Go.WideShapes Go.ChangeAt Go.RowKit
set_option linter.unusedVariables false
set_option linter.unusedSimpArgs false

def ix (s : ByteArray) : Int := Lib.indexByte s.data.toList 10
theorem ix_list (l : List UInt8) : ((10 : UInt8) ∉ l ∧ Lib.indexByte l 10 = -1) ∨ ∃ x r, l = x ++ 10 :: r ∧ (10 : UInt8) ∉ x ∧ Lib.indexByte l 10 = (x.length : Int) := by
  induction l with
  | nil => exact .inl ⟨by simp, rfl⟩
  | cons b t ih =>
    by_cases hb : b = 10
    · subst hb
      exact .inr ⟨[], t, rfl, by simp, by simp [Lib.indexByte]⟩
    · have hb' : (b == 10) = false := by simpa using hb
      have hb2 : ¬ (10 : UInt8) = b := fun e => hb e.symm
      rcases ih with ⟨h1, h2⟩ | ⟨x, r, h1, h2, h3⟩
      · refine .inl ⟨by simp [h1, hb2], ?_⟩
        simp [Lib.indexByte, hb', h2]
      · refine .inr ⟨b :: x, r, by simp [h1], by simp [h2, hb2], ?_⟩
        have hn : ((x.length : Int) == -1) = false := by rw [beq_eq_false_iff_ne]; omega
        simp [Lib.indexByte, hb', h3, hn]
/- Where the library's IndexByte lies in this program; its contract is the library's own. -/
def renI : Go.Shelf.Ren := ⟨fun x => if x = 217 then 32 else if x = 266 then 38 else x, fun x => x, fun x => x⟩
theorem laidI : Go.Proofs.Lays.n217 Try.prog renI :=
  { mixed := by kernel_rfl, f217 := by kernel_rfl, f266 := by kernel_rfl, t3 := by kernel_rfl, a3 := fun _ => by kernel_rfl, z3 := fun _ => by kernel_rfl, v3 := fun _ => by kernel_rfl, t5 := by kernel_rfl, a5 := fun _ => by kernel_rfl, z5 := fun _ => by kernel_rfl, v5 := fun _ => by kernel_rfl, t9 := by kernel_rfl, a9 := fun _ => by kernel_rfl, z9 := fun _ => by kernel_rfl, v9 := fun _ => by kernel_rfl }
theorem index_inner (s : ByteArray) (w : World) : Calls Try.prog 32 #[.string s, .int .u8 10] w fun e w' => e = .returned (.int .i64 (ix s)) ∧ w' = w :=
  Any.stringslite_IndexByte laidI s 10 w
theorem index_any (s : ByteArray) (w : World) : Calls Try.prog 25 #[.string s, .int .u8 10] w fun e w' => e = .returned (.int .i64 (ix s)) ∧ w' = w := by
  go_enter Try.func25, Try.ntmps25
  go_wp2_with (go_at_call 32; refine (index_inner _ _).mono ?_; rintro e w' ⟨rfl, rfl⟩)
  go_ret
  exact ⟨rfl, rfl⟩
theorem ix_one (s : ByteArray) (h : s.data.toList = [10]) : ix s = 0 := by unfold ix; rw [h]; rfl
set_option maxHeartbeats 1000000 in
set_option maxRecDepth 100000 in
theorem find_any (s : ByteArray) (w : World) : Calls Try.prog 60 #[.string s, .string ⟨#[10]⟩] w fun e w' => e = .returned (.int .i64 (ix s)) ∧ w' = w := by
  by_cases h : s.data.toList = [10]
  · have h1 : ([10] == s.toList) = true := by rw [Lib.toList_data, h]; rfl
    rw [ix_one s h]
    go_enter Try.func60, Try.ntmps60
    go_wp2
    go_ret
    exact ⟨rfl, rfl⟩
  · have h1 : ([10] == s.toList) = false := by
      rw [Lib.toList_data, beq_eq_false_iff_ne]
      exact fun e => h e.symm
    go_enter Try.func60, Try.ntmps60
    go_wp2_with (go_at_call 32; refine (index_inner _ _).mono ?_; rintro e w' ⟨rfl, rfl⟩)
    go_ret
    exact ⟨rfl, rfl⟩
theorem ext_data {s t : ByteArray} (h : s.data.toList = t.data.toList) : s = t := by
  cases s; cases t
  simp at h
  rw [h]
theorem ext_ba {s : ByteArray} {l : List UInt8} (h : s.data.toList = l) : s = ba l := ext_data (by rw [h]; simp [ba])
theorem ba_list (l : List UInt8) : (ba l).data.toList = l := by simp [ba]
theorem ba_data (s : ByteArray) : ba s.data.toList = s := ext_data (by simp [ba])
theorem size_list (s : ByteArray) : s.size = s.data.toList.length := Lib.size_eq s
theorem ex_list (s : ByteArray) (a b : Nat) : (s.extract a b).data.toList = (s.data.toList.drop a).take (b - a) := by
  rw [← Lib.toList_data, Lib.extract_toList]
set_option maxHeartbeats 1000000 in
set_option maxRecDepth 100000 in
theorem cut_inner_no (s : ByteArray) (h : ix s = -1) (w : World) : Calls Try.prog 50 #[.string s, .string ⟨#[10]⟩] w fun e w' => e = .returned (.tuple #[.string s, .string ⟨#[]⟩, .bool false]) ∧ w' = w := by
  have hf := find_any s w
  rw [h] at hf
  clear h
  go_enter Try.func50, Try.ntmps50
  go_wp2_with (go_at_call 60; refine hf.mono ?_; rintro e w' ⟨rfl, rfl⟩)
  go_ret3
  exact ⟨rfl, rfl⟩
set_option maxHeartbeats 1000000 in
set_option maxRecDepth 100000 in
theorem cut_inner_at (s : ByteArray) (i : Nat) (h : ix s = (i : Int)) (hi : i + 1 ≤ s.size) (hs : s.size ≤ 4294967296) (w : World) : Calls Try.prog 50 #[.string s, .string ⟨#[10]⟩] w fun e w' => e = .returned (.tuple #[.string (s.extract 0 i), .string (s.extract (i + 1) s.size), .bool true]) ∧ w' = w.drew := by
  have hf := find_any s w
  rw [h] at hf
  clear h
  have c2 : (↑i : Int) ≤ ↑s.size := by omega
  have c3 : (0 : Int) ≤ ↑i + 1 := by omega
  have c4 : (↑i + 1 : Int) ≤ ↑s.size := by omega
  go_enter Try.func50, Try.ntmps50
  go_wp2_with (go_at_call 60; refine hf.mono ?_; rintro e w' ⟨rfl, rfl⟩)
  go_region
  go_wp2
  go_ret3
  exact ⟨rfl, rfl⟩
theorem cut_no (s : ByteArray) (h : ix s = -1) (w : World) : Calls Try.prog 37 #[.string s, .string ⟨#[10]⟩] w fun e w' => e = .returned (.tuple #[.string s, .string ⟨#[]⟩, .bool false]) ∧ w' = w := by
  go_enter Try.func37, Try.ntmps37
  go_wp2_with (go_at_call 50; refine (cut_inner_no s h _).mono ?_; rintro e w' ⟨rfl, rfl⟩)
  go_ret3
  exact ⟨rfl, rfl⟩
theorem cut_at10 (s : ByteArray) (i : Nat) (h : ix s = (i : Int)) (hi : i + 1 ≤ s.size) (hs : s.size ≤ 4294967296) (w : World) : Calls Try.prog 37 #[.string s, .string ⟨#[10]⟩] w fun e w' => e = .returned (.tuple #[.string (s.extract 0 i), .string (s.extract (i + 1) s.size), .bool true]) ∧ w' = w.drew := by
  go_enter Try.func37, Try.ntmps37
  go_wp2_with (go_at_call 50; refine (cut_inner_at s i h hi hs _).mono ?_; rintro e w' ⟨rfl, rfl⟩)
  go_ret3
  exact ⟨rfl, rfl⟩

/- The last byte. -/
theorem last_in (l : List UInt8) (h : 1 ≤ l.length) : (((l.drop (l.length - 1)).take (l.length - (l.length - 1)) == [13]) = true ↔ l.getLast? = some 13) ∧ trimR l = if l.getLast? = some 13 then l.take (l.length - 1) else l := by
  have hne : l ≠ [] := by intro e; simp [e] at h
  refine ⟨?_, ?_⟩
  · obtain ⟨x, b, rfl⟩ : ∃ x b, l = x ++ [b] := ⟨l.dropLast, l.getLast hne, (List.dropLast_concat_getLast hne).symm⟩
    simp
  · unfold trimR
    rw [List.dropLast_eq_take]
theorem suf_yes (s : ByteArray) (h : s.data.toList.getLast? = some 13) (hs : s.size ≤ 4294967296) (w : World) : Calls Try.prog 49 #[.string s, .string ⟨#[13]⟩] w fun e w' => e = .returned (.bool true) ∧ w' = w := by
  have h1 : 1 ≤ s.data.toList.length := by cases hh : s.data.toList with | nil => simp [hh] at h | cons => simp
  have h2 : ((s.extract (s.size - 1) s.size).toList == [13]) = true := by
    rw [Lib.extract_toList, size_list]
    exact (last_in _ h1).1.2 h
  rw [← size_list] at h1
  have hlo : ((s.size : Int) - 1 + 9223372036854775808) % 18446744073709551616 - 9223372036854775808 = ((s.size - 1 : Nat) : Int) := by omega
  clear h
  go_enter Try.func49, Try.ntmps49
  go_wp2
  go_ret
  refine ⟨?_, rfl⟩
  simp [h2]
theorem suf_no (s : ByteArray) (h : s.data.toList.getLast? ≠ some 13) (hs : s.size ≤ 4294967296) (w : World) : Calls Try.prog 49 #[.string s, .string ⟨#[13]⟩] w fun e w' => e = .returned (.bool false) ∧ w' = w := by
  by_cases h0 : 1 ≤ s.size
  · have h2 : ((s.extract (s.size - 1) s.size).toList == [13]) = false := by
      rw [Lib.extract_toList, size_list]
      rw [size_list] at h0
      cases hb : ((s.data.toList.drop (s.data.toList.length - 1)).take (s.data.toList.length - (s.data.toList.length - 1)) == [13]) with
      | false => rfl
      | true => exact absurd ((last_in _ h0).1.1 hb) h
    have hlo : ((s.size : Int) - 1 + 9223372036854775808) % 18446744073709551616 - 9223372036854775808 = ((s.size - 1 : Nat) : Int) := by omega
    clear h
    go_enter Try.func49, Try.ntmps49
    go_wp2
    go_ret
    refine ⟨?_, rfl⟩
    simp [h2]
  · have h2 : s.size = 0 := by omega
    have h3 : ¬ (1 : Int) ≤ (s.size : Int) := by omega
    clear h h0
    go_enter Try.func49, Try.ntmps49
    go_wp2
    go_ret
    exact ⟨rfl, rfl⟩
theorem trim_inner (s : ByteArray) (hs : s.size ≤ 4294967296) (w : World) : Calls Try.prog 36 #[.string s, .string ⟨#[13]⟩] w fun e w' => e = .returned (.string (ba (trimR s.data.toList))) ∧ w' = w := by
  by_cases h : s.data.toList.getLast? = some 13
  · have h1 : 1 ≤ s.data.toList.length := by cases hh : s.data.toList with | nil => simp [hh] at h | cons => simp
    have he : ba (trimR s.data.toList) = s.extract 0 (s.size - 1) := by
      refine (ext_ba ?_).symm
      rw [(last_in _ h1).2, if_pos h, ex_list, size_list]
      simp
    rw [he]
    have hf := suf_yes s h hs w
    rw [← size_list] at h1
    have hlo : ((s.size : Int) - 1 + 9223372036854775808) % 18446744073709551616 - 9223372036854775808 = ((s.size - 1 : Nat) : Int) := by omega
    have h3 : (((s.size : Int) - 1)).toNat = s.size - 1 := by omega
    clear h he
    go_enter Try.func36, Try.ntmps36
    go_wp2_with (go_at_call 49; refine hf.mono ?_; rintro e w' ⟨rfl, rfl⟩)
    go_ret
    first | exact ⟨rfl, rfl⟩ | exact ⟨by rw [h3], rfl⟩
  · have he : ba (trimR s.data.toList) = s := by
      unfold trimR
      rw [if_neg h, ba_data]
    rw [he]
    have hf := suf_no s h hs w
    clear h he
    go_enter Try.func36, Try.ntmps36
    go_wp2_with (go_at_call 49; refine hf.mono ?_; rintro e w' ⟨rfl, rfl⟩)
    go_ret
    exact ⟨rfl, rfl⟩
theorem trim_any (s : ByteArray) (hs : s.size ≤ 4294967296) (w : World) : Calls Try.prog 27 #[.string s, .string ⟨#[13]⟩] w fun e w' => e = .returned (.string (ba (trimR s.data.toList))) ∧ w' = w := by
  go_enter Try.func27, Try.ntmps27
  go_wp2_with (go_at_call 36; refine (trim_inner s hs _).mono ?_; rintro e w' ⟨rfl, rfl⟩)
  go_ret
  exact ⟨rfl, rfl⟩
end Go.Proofs.Ytjlojkcdglocbaa
