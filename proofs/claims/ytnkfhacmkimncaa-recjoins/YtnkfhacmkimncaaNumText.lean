/- Contracts of the library's strings.Clone, of the program's GetText and of the reference's: the text at a place, the place behind it, the error. They turn nothing that was there. The text has at most 2^47 bytes. -/
import Derived.Test.YtnkfhacmkimncaaNumRefGet
import Derived.Shelf.Pu.Clone
namespace Go.Proofs.Ytnkfhacmkimncaa
open Go.ChangeShapes Go.WideShapes Go.ChangeAt Go.RowKit
set_option linter.unusedVariables false

/- Where the library's Clone and its types lie in this program. -/
def ren : Go.Shelf.Ren := ⟨fun x => if x = 25 then 64 else x, fun x => if x = 37 then 82 else if x = 47 then 93 else x, fun x => x⟩
theorem laid : Go.Proofs.LaysPu.n25 Try.prog ren :=
  { mixed := by kernel_rfl,
    f25 := by kernel_rfl,
    t0 := by kernel_rfl,
    a0 := fun _ => by kernel_rfl,
    z0 := fun _ => by kernel_rfl,
    v0 := fun _ => by kernel_rfl,
    i0 := by kernel_rfl,
    t3 := by kernel_rfl,
    a3 := fun _ => by kernel_rfl,
    z3 := fun _ => by kernel_rfl,
    v3 := fun _ => by kernel_rfl,
    i3 := by kernel_rfl,
    t4 := by kernel_rfl,
    a4 := fun _ => by kernel_rfl,
    z4 := fun _ => by kernel_rfl,
    v4 := fun _ => by kernel_rfl,
    i4 := by kernel_rfl,
    t5 := by kernel_rfl,
    a5 := fun _ => by kernel_rfl,
    z5 := fun _ => by kernel_rfl,
    v5 := fun _ => by kernel_rfl,
    i5 := by kernel_rfl,
    t9 := by kernel_rfl,
    a9 := fun _ => by kernel_rfl,
    z9 := fun _ => by kernel_rfl,
    v9 := fun _ => by kernel_rfl,
    i9 := by kernel_rfl,
    t37 := by kernel_rfl,
    a37 := fun _ => by kernel_rfl,
    z37 := fun _ => by kernel_rfl,
    v37 := fun _ => by kernel_rfl,
    i37 := by kernel_rfl,
    t47 := by kernel_rfl,
    a47 := fun _ => by kernel_rfl,
    z47 := fun _ => by kernel_rfl,
    v47 := fun _ => by kernel_rfl,
    i47 := by kernel_rfl }
theorem clone_inner (s : ByteArray) (hlim : s.size ≤ 140737488355328) (w : World) : Calls Try.prog 64 #[.string s] w fun e w' => e = .returned (.string s) ∧ Below w.heap.size w w' :=
  AnyPu.stringslite_Clone laid s w (by omega)
theorem clone_any (s : ByteArray) (hlim : s.size ≤ 140737488355328) (w : World) : Calls Try.prog 57 #[.string s] w fun e w' => e = .returned (.string s) ∧ Below w.heap.size w w' := by
  go_enter Try.func57, Try.ntmps57
  go_wp2_with (go_at_call 64; refine (clone_inner s hlim _).mono ?_; rintro e w1 ⟨rfl, hb1⟩)
  go_ret
  exact ⟨rfl, hb1⟩
def tripT (g : ByteArray × Nat × Nat) : Value := .tuple #[.string g.1, .int .i64 (g.2.1 : Int), .int .i64 (g.2.2 : Int)]
set_option maxHeartbeats 1600000 in
set_option maxRecDepth 100000 in
theorem GetText_any (s : ByteArray) (p most : Int) (hs : s.size ≤ 140737488355328) (hm : -9223372036854775808 ≤ most ∧ most ≤ 9223372036854775807) (w : World) : Calls Try.prog 68 #[.string s, .int .i64 p, .int .i64 most] w fun e w' => e = .returned (tripT (getT s p most)) ∧ Below w.heap.size w w' := by
  have hG := Get_any s p hs
  obtain ⟨r, hr⟩ : ∃ r, r = getT s p most := ⟨_, rfl⟩
  rw [← hr]
  unfold getT at hr
  have HO : Hid (∀ n t, getN s p = (n, t, 0) → t ≤ s.size ∧ n < 4611686018427387904) := fun n t h => by
    obtain ⟨a, _, h2, _, h4, _⟩ := getN_ok s p n t h
    exact ⟨h4, h2⟩
  generalize getN s p = g at *
  obtain ⟨n, t, e⟩ := g
  simp only at hr
  unfold trip at hG
  by_cases he : e = 0
  · subst he
    rw [if_pos rfl] at hr
    obtain ⟨hts, hn⟩ := HO.out n t rfl
    clear HO
    have hti : (t : Int) ≤ (s.size : Int) := by omega
    by_cases h1 : most < 0
    · rw [if_pos (.inl h1)] at hr
      subst hr
      clear hn
      go_enter Try.func68, Try.ntmps68
      go_wp2_with (go_at_call 69; refine (hG _).mono ?_; rintro e w ⟨rfl, rfl⟩)
      go_ret3
      exact ⟨rfl, Below.refl _ _⟩
    · have hmw : IntKind.u64.wrap most = most := by rw [IntKind.wrap_u64]; omega
      by_cases h2 : most < n
      · rw [if_pos (.inr h2)] at hr
        subst hr
        clear hn hm
        go_enter Try.func68, Try.ntmps68
        go_wp2_with (go_at_call 69; refine (hG _).mono ?_; rintro e w ⟨rfl, rfl⟩)
        go_ret3
        exact ⟨rfl, Below.refl _ _⟩
      · rw [if_neg (by omega)] at hr
        have hsz : (s.extract t s.size).size = s.size - t := by simp
        have hsl : ∀ w, (Instr.slice 9 (.string s) (some (.int .i64 (t : Int))) none none).run Try.prog w = .ok (.string (s.extract t s.size)) w := fun w => by
          rw [run_slice_string_from_if (P := Try.prog) w 9 s .i64 (t : Int) Try.underlying9, if_pos ⟨by omega, by omega⟩, Int.toNat_natCast]
        by_cases h3 : s.size - t < n
        · rw [if_pos h3] at hr
          subst hr
          generalize s.extract t s.size = S at *
          have h3i : (S.size : Int) < (n : Int) := by omega
          have hsw : IntKind.u64.wrap (S.size : Int) = (S.size : Int) := by rw [IntKind.wrap_u64]; omega
          clear hn hm hsz h3
          go_enter Try.func68, Try.ntmps68
          go_wp2_with (go_at_call 69; refine (hG _).mono ?_; rintro e w ⟨rfl, rfl⟩)
          go_ret3
          exact ⟨rfl, Below.refl _ _⟩
        · rw [if_neg h3] at hr
          have hee : (s.extract t s.size).extract 0 n = s.extract t (t + n) := by
            apply bytes_ext
            rw [extract_list, extract_list, extract_list, List.drop_zero, List.take_take]
            congr 1
            omega
          have hxs : (s.extract t (t + n)).size ≤ 140737488355328 := by simp; omega
          generalize s.extract t (t + n) = T at *
          subst hr
          generalize s.extract t s.size = S at *
          have h3i : ¬ (S.size : Int) < (n : Int) := by omega
          have hnS : (n : Int) ≤ (S.size : Int) := by omega
          have hsw : IntKind.u64.wrap (S.size : Int) = (S.size : Int) := by rw [IntKind.wrap_u64]; omega
          have hnw : IntKind.i64.wrap (n : Int) = (n : Int) := by rw [IntKind.wrap_i64]; omega
          have htw : IntKind.i64.wrap ((t : Int) + (n : Int)) = (t : Int) + (n : Int) := by rw [IntKind.wrap_i64]; omega
          have hsl2 : ∀ w, (Instr.slice 9 (.string S) none (some (.int .u64 (n : Int))) none).run Try.prog w = .ok (.string T) w := fun w => by
            rw [run_slice_string_to_if (P := Try.prog) w 9 S .u64 (n : Int) Try.underlying9, if_pos ⟨by omega, by omega⟩, Int.toNat_natCast, hee]
          have hcl := clone_any T hxs
          clear hn hm hsz h3 hee hxs
          go_enter Try.func68, Try.ntmps68
          go_wp2_with (first | (go_at_call 69; refine (hG _).mono ?_; rintro e w ⟨rfl, rfl⟩) | (go_at_call 57; refine (hcl _).mono ?_; rintro e w1 ⟨rfl, hb1⟩))
          go_ret3
          exact ⟨rfl, hb1⟩
  · rw [if_neg he] at hr
    subst hr
    have hei : ¬ (e : Int) = 0 := by omega
    clear HO he
    go_enter Try.func68, Try.ntmps68
    go_wp2_with (go_at_call 69; refine (hG _).mono ?_; rintro e w ⟨rfl, rfl⟩)
    go_ret3
    exact ⟨rfl, Below.refl _ _⟩
end Go.Proofs.Ytnkfhacmkimncaa
