/- The contracts of the landed writer's five lists. What is built has at most 2^46 bytes. -/
import Derived.Test.YtioeidhblbfgmaaGreatY38

namespace Go.Proofs.YtioeidhblbfgmaaGreat
open Go.ChangeShapes Go.WideShapes Go.ChangeAt Go.RowKit
set_option linter.unusedVariables false
set_option linter.unusedSimpArgs false
set_option maxRecDepth 100000

set_option maxHeartbeats 6400000 in
theorem ldListN_w (W : World) (X : Nat) (b : ByteArray) (w : World) (h : Bld W X b w) (hb : b.size ≤ 35184372088832) (xs : List Nw) (hl : xs.length ≤ 4096) (hx : ∀ x ∈ xs, NwOk x) (v : Value) (hv : Rg encN 3 W v xs) :
    Calls Tryz.prog 54 #[.pointer (some ⟨X, 0, none⟩), v, .func (.func 55) #[.pointer (some ⟨X, 0, none⟩)] #[]] w fun e w' => e = .returned (.tuple #[]) ∧ Bld W X (b ++ listB newsB xs) w' ∧ WrT X w w' := by
  have HR := hid hv
  have HX := hid hx
  obtain ⟨a, cap, rfl, -, -, -, -⟩ := hv
  have HQ : Hid (0 < xs.length → ∃ g o, a = some ⟨g, o, none⟩) := hid (fun hp => by
    obtain ⟨g, o, c, e⟩ := rg_pos HR.out hp
    injection e with e1
    exact ⟨g, o, e1⟩)
  have HG : Hid (∀ k : Nat, k < xs.length → ∃ y, xs[k]? = some y) := hid (fun k hk => ⟨xs[k], List.getElem?_eq_getElem hk⟩)
  have HT0 : Hid (∀ (k : Nat) (y : Nw), xs[k]? = some y → catB newsB (xs.take (k + 1)) = catB newsB (xs.take k) ++ newsB y) := hid (fun k y hy => by rw [List.take_add_one, hy]; exact catB_next _ _ _)
  have HF : Hid (b ++ listB newsB xs = b ++ (encB xs.length ++ catB newsB (xs.take xs.length))) := hid (by rw [List.take_length]; rfl)
  have q0 : IntKind.u64.wrap (xs.length : Int) = (xs.length : Int) := wrap64 (by omega)
  have HC1 : Hid (cat [(xs.length : Int)] = encB xs.length) := hid (cat_one xs.length)
  have hs0 : (encB xs.length).size ≤ 8 := encB_size xs.length
  generalize hN : xs.length = n at *
  have k1 := kept_alloc (kept_refl w) (.cells #[.int .u64 (n : Int)] 53)
  have HG1 := hid (at_new w #[.int .u64 (n : Int)] 53)
  have HB1 := hid (bld_kept h k1)
  have HK1 := hid k1
  have hz := zeroN3
  clear k1 h hx
  go_enter Tryz.func54, Tryz.ntmps54
  go_wp2_with fail
  refine (ldNums_any W X b _ HB1.out (by omega) [(n : Int)] (by show 1 ≤ 4; omega) (by intro y hy; simp at hy; subst hy; omega) w.heap.size HG1.out).mono ?_
  rintro e w2 ⟨rfl, hb2, t2⟩
  rw [HC1.out] at hb2
  have HB2 := hid hb2
  have HT2 := hid (wrt_trans (wrt_kept HK1.out) t2)
  have hsz : (b ++ encB n).size ≤ b.size + 8 := by rw [ByteArray.size_append]; omega
  clear hb2 t2 q0 hs0
  go_wp2_with fail
  go_loopw [16] (fun iv wr => ∃ (k : Nat) (S : ByteArray), k ≤ n ∧ iv = .int .i64 (k : Int) ∧ S.size ≤ b.size + 8 + 2000 * k ∧ Hid (S = b ++ (encB n ++ catB newsB (xs.take k))) ∧ Hid (Bld W X S wr) ∧ Hid (WrT X w wr)) (fun iv _ => n - (intOf iv).toNat)
  case atStart => exact ⟨0, b ++ encB n, Nat.zero_le _, rfl, by omega, hid (by rw [List.take_zero, catB_nil, mapp_nil]), HB2, HT2⟩
  case round =>
    obtain ⟨k, S, hk, rfl, hS, HS, HBk, HTk⟩ := hrel
    by_cases hlt : k < n
    · have hltz : (k : Int) < (n : Int) := by omega
      obtain ⟨y, hy⟩ := HG.out k hlt
      obtain ⟨g1, o, rfl⟩ := HQ.out (by omega)
      obtain ⟨c0, c1, c2⟩ := rg_N (rg_kept encN_ok HR.out HBk.out.k) hy
      have HS2 : Hid (S ++ newsB y = b ++ (encB n ++ catB newsB (xs.take (k + 1)))) := hid (by rw [HT0.out k y hy, HS.out]; simp only [ByteArray.append_assoc])
      have hyP := HX.out y (List.mem_of_getElem? hy)
      have hsy : (newsB y).size ≤ 2000 := (by have := newsB_le y; omega)
      have HKx := hid (kept_alloc (kept_refl wr) (.cells #[.int .u8 y.node, .int .u8 y.st, .int .u32 y.inc] 79))
      clear hy
      go_wp2_with fail
      refine (ldNews_w W X S _ (bld_kept HBk.out HKx.out) (by omega) y hyP).mono ?_
      rintro e w3 ⟨rfl, hb3, t3⟩
      have HB3 := hid hb3
      have HT3 := hid (wrt_trans HTk.out (wrt_trans (wrt_kept HKx.out) t3))
      clear hb3 t3 c0 c1 c2
      go_wp2_with fail
      go_roundw
      case rel => exact ⟨k + 1, S ++ newsB y, by omega, by go_num, by rw [ByteArray.size_append]; omega, HS2, HB3, HT3⟩
      case measure => simp [intOf]; omega
    · have hltz : ¬ (k : Int) < (n : Int) := by omega
      have e : k = n := by omega
      subst e
      have HE : Hid (b ++ listB newsB xs = S) := hid (by rw [HF.out, HS.out])
      go_wp2_with fail
      refine bodyPost_end (v := .tuple #[]) (by kernel_rfl) rfl ?_
      exact ⟨rfl, by rw [HE.out]; exact HBk.out, HTk.out⟩
set_option maxHeartbeats 6400000 in
theorem ldListK_w (W : World) (X : Nat) (b : ByteArray) (w : World) (h : Bld W X b w) (hb : b.size ≤ 35184372088832) (xs : List ByteArray) (hl : xs.length ≤ 4096) (hx : ∀ x ∈ xs, x.size ≤ 1000) (v : Value) (hv : Rg encK 1 W v xs) :
    Calls Tryz.prog 56 #[.pointer (some ⟨X, 0, none⟩), v, .func (.func 57) #[.pointer (some ⟨X, 0, none⟩)] #[]] w fun e w' => e = .returned (.tuple #[]) ∧ Bld W X (b ++ listB textE xs) w' ∧ WrT X w w' := by
  have HR := hid hv
  have HX := hid hx
  obtain ⟨a, cap, rfl, -, -, -, -⟩ := hv
  have HQ : Hid (0 < xs.length → ∃ g o, a = some ⟨g, o, none⟩) := hid (fun hp => by
    obtain ⟨g, o, c, e⟩ := rg_pos HR.out hp
    injection e with e1
    exact ⟨g, o, e1⟩)
  have HG : Hid (∀ k : Nat, k < xs.length → ∃ y, xs[k]? = some y) := hid (fun k hk => ⟨xs[k], List.getElem?_eq_getElem hk⟩)
  have HT0 : Hid (∀ (k : Nat) (y : ByteArray), xs[k]? = some y → catB textE (xs.take (k + 1)) = catB textE (xs.take k) ++ textE y) := hid (fun k y hy => by rw [List.take_add_one, hy]; exact catB_next _ _ _)
  have HF : Hid (b ++ listB textE xs = b ++ (encB xs.length ++ catB textE (xs.take xs.length))) := hid (by rw [List.take_length]; rfl)
  have q0 : IntKind.u64.wrap (xs.length : Int) = (xs.length : Int) := wrap64 (by omega)
  have HC1 : Hid (cat [(xs.length : Int)] = encB xs.length) := hid (cat_one xs.length)
  have hs0 : (encB xs.length).size ≤ 8 := encB_size xs.length
  generalize hN : xs.length = n at *
  have k1 := kept_alloc (kept_refl w) (.cells #[.int .u64 (n : Int)] 53)
  have HG1 := hid (at_new w #[.int .u64 (n : Int)] 53)
  have HB1 := hid (bld_kept h k1)
  have HK1 := hid k1
  have hz0 : True := trivial
  clear k1 h hx
  go_enter Tryz.func56, Tryz.ntmps56
  go_wp2_with fail
  refine (ldNums_any W X b _ HB1.out (by omega) [(n : Int)] (by show 1 ≤ 4; omega) (by intro y hy; simp at hy; subst hy; omega) w.heap.size HG1.out).mono ?_
  rintro e w2 ⟨rfl, hb2, t2⟩
  rw [HC1.out] at hb2
  have HB2 := hid hb2
  have HT2 := hid (wrt_trans (wrt_kept HK1.out) t2)
  have hsz : (b ++ encB n).size ≤ b.size + 8 := by rw [ByteArray.size_append]; omega
  clear hb2 t2 q0 hs0
  go_wp2_with fail
  go_loopw [16] (fun iv wr => ∃ (k : Nat) (S : ByteArray), k ≤ n ∧ iv = .int .i64 (k : Int) ∧ S.size ≤ b.size + 8 + 2000 * k ∧ Hid (S = b ++ (encB n ++ catB textE (xs.take k))) ∧ Hid (Bld W X S wr) ∧ Hid (WrT X w wr)) (fun iv _ => n - (intOf iv).toNat)
  case atStart => exact ⟨0, b ++ encB n, Nat.zero_le _, rfl, by omega, hid (by rw [List.take_zero, catB_nil, mapp_nil]), HB2, HT2⟩
  case round =>
    obtain ⟨k, S, hk, rfl, hS, HS, HBk, HTk⟩ := hrel
    by_cases hlt : k < n
    · have hltz : (k : Int) < (n : Int) := by omega
      obtain ⟨y, hy⟩ := HG.out k hlt
      obtain ⟨g1, o, rfl⟩ := HQ.out (by omega)
      have c0 := rg_K (rg_kept encK_ok HR.out HBk.out.k) hy
      have HS2 : Hid (S ++ textE y = b ++ (encB n ++ catB textE (xs.take (k + 1)))) := hid (by rw [HT0.out k y hy, HS.out]; simp only [ByteArray.append_assoc])
      have hyP := HX.out y (List.mem_of_getElem? hy)
      have hsy : (textE y).size ≤ 2000 := (by have := textE_lim y; omega)
      have HKx := hid (kept_refl wr)
      clear hy
      go_wp2_with fail
      refine (ldText_any W X S _ (bld_kept HBk.out HKx.out) (by omega) y hyP).mono ?_
      rintro e w3 ⟨rfl, hb3, t3⟩
      have HB3 := hid hb3
      have HT3 := hid (wrt_trans HTk.out (wrt_trans (wrt_kept HKx.out) t3))
      clear hb3 t3 c0
      go_wp2_with fail
      go_roundw
      case rel => exact ⟨k + 1, S ++ textE y, by omega, by go_num, by rw [ByteArray.size_append]; omega, HS2, HB3, HT3⟩
      case measure => simp [intOf]; omega
    · have hltz : ¬ (k : Int) < (n : Int) := by omega
      have e : k = n := by omega
      subst e
      have HE : Hid (b ++ listB textE xs = S) := hid (by rw [HF.out, HS.out])
      go_wp2_with fail
      refine bodyPost_end (v := .tuple #[]) (by kernel_rfl) rfl ?_
      exact ⟨rfl, by rw [HE.out]; exact HBk.out, HTk.out⟩
set_option maxHeartbeats 6400000 in
theorem ldListR_w (W : World) (X : Nat) (b : ByteArray) (w : World) (h : Bld W X b w) (hb : b.size ≤ 35184372088832) (xs : List R) (hl : xs.length ≤ 4096) (hx : ∀ x ∈ xs, x.ok ∧ mayR x = true) (v : Value) (hv : Rg encR 8 W v xs) :
    Calls Tryz.prog 58 #[.pointer (some ⟨X, 0, none⟩), v, .func (.func 59) #[.pointer (some ⟨X, 0, none⟩)] #[]] w fun e w' => e = .returned (.tuple #[]) ∧ Bld W X (b ++ listB putR xs) w' ∧ WrT X w w' := by
  have HR := hid hv
  have HX := hid hx
  obtain ⟨a, cap, rfl, -, -, -, -⟩ := hv
  have HQ : Hid (0 < xs.length → ∃ g o, a = some ⟨g, o, none⟩) := hid (fun hp => by
    obtain ⟨g, o, c, e⟩ := rg_pos HR.out hp
    injection e with e1
    exact ⟨g, o, e1⟩)
  have HG : Hid (∀ k : Nat, k < xs.length → ∃ y, xs[k]? = some y) := hid (fun k hk => ⟨xs[k], List.getElem?_eq_getElem hk⟩)
  have HT0 : Hid (∀ (k : Nat) (y : R), xs[k]? = some y → catB putR (xs.take (k + 1)) = catB putR (xs.take k) ++ putR y) := hid (fun k y hy => by rw [List.take_add_one, hy]; exact catB_next _ _ _)
  have HF : Hid (b ++ listB putR xs = b ++ (encB xs.length ++ catB putR (xs.take xs.length))) := hid (by rw [List.take_length]; rfl)
  have q0 : IntKind.u64.wrap (xs.length : Int) = (xs.length : Int) := wrap64 (by omega)
  have HC1 : Hid (cat [(xs.length : Int)] = encB xs.length) := hid (cat_one xs.length)
  have hs0 : (encB xs.length).size ≤ 8 := encB_size xs.length
  generalize hN : xs.length = n at *
  have k1 := kept_alloc (kept_refl w) (.cells #[.int .u64 (n : Int)] 53)
  have HG1 := hid (at_new w #[.int .u64 (n : Int)] 53)
  have HB1 := hid (bld_kept h k1)
  have HK1 := hid k1
  have hz := zero27
  clear k1 h hx
  go_enter Tryz.func58, Tryz.ntmps58
  go_wp2_with fail
  refine (ldNums_any W X b _ HB1.out (by omega) [(n : Int)] (by show 1 ≤ 4; omega) (by intro y hy; simp at hy; subst hy; omega) w.heap.size HG1.out).mono ?_
  rintro e w2 ⟨rfl, hb2, t2⟩
  rw [HC1.out] at hb2
  have HB2 := hid hb2
  have HT2 := hid (wrt_trans (wrt_kept HK1.out) t2)
  have hsz : (b ++ encB n).size ≤ b.size + 8 := by rw [ByteArray.size_append]; omega
  clear hb2 t2 q0 hs0
  go_wp2_with fail
  go_loopw [16] (fun iv wr => ∃ (k : Nat) (S : ByteArray), k ≤ n ∧ iv = .int .i64 (k : Int) ∧ S.size ≤ b.size + 8 + 2000 * k ∧ Hid (S = b ++ (encB n ++ catB putR (xs.take k))) ∧ Hid (Bld W X S wr) ∧ Hid (WrT X w wr)) (fun iv _ => n - (intOf iv).toNat)
  case atStart => exact ⟨0, b ++ encB n, Nat.zero_le _, rfl, by omega, hid (by rw [List.take_zero, catB_nil, mapp_nil]), HB2, HT2⟩
  case round =>
    obtain ⟨k, S, hk, rfl, hS, HS, HBk, HTk⟩ := hrel
    by_cases hlt : k < n
    · have hltz : (k : Int) < (n : Int) := by omega
      obtain ⟨y, hy⟩ := HG.out k hlt
      obtain ⟨g1, o, rfl⟩ := HQ.out (by omega)
      obtain ⟨c0, c1, c2, c3, c4, c5, c6, c7⟩ := rg_R (rg_kept encR_ok HR.out HBk.out.k) hy
      have HS2 : Hid (S ++ putR y = b ++ (encB n ++ catB putR (xs.take (k + 1)))) := hid (by rw [HT0.out k y hy, HS.out]; simp only [ByteArray.append_assoc])
      have hyP := HX.out y (List.mem_of_getElem? hy)
      have hsy : (putR y).size ≤ 2000 := (recB_lim hyP.1 hyP.2)
      have HKx := hid (kept_alloc (kept_refl wr) (.cells #[.string y.key, .int .u64 y.s.p, .int .u32 y.s.l, .int .u8 y.s.n, .int .u8 y.kind, .int .u32 y.flags, .int .u64 y.exp, .string y.body] 57))
      clear hy
      go_wp2_with fail
      refine (ldRec_w W X S _ (bld_kept HBk.out HKx.out) (by omega) y hyP).mono ?_
      rintro e w3 ⟨rfl, hb3, t3⟩
      have HB3 := hid hb3
      have HT3 := hid (wrt_trans HTk.out (wrt_trans (wrt_kept HKx.out) t3))
      clear hb3 t3 c0 c1 c2 c3 c4 c5 c6 c7
      go_wp2_with fail
      go_roundw
      case rel => exact ⟨k + 1, S ++ putR y, by omega, by go_num, by rw [ByteArray.size_append]; omega, HS2, HB3, HT3⟩
      case measure => simp [intOf]; omega
    · have hltz : ¬ (k : Int) < (n : Int) := by omega
      have e : k = n := by omega
      subst e
      have HE : Hid (b ++ listB putR xs = S) := hid (by rw [HF.out, HS.out])
      go_wp2_with fail
      refine bodyPost_end (v := .tuple #[]) (by kernel_rfl) rfl ?_
      exact ⟨rfl, by rw [HE.out]; exact HBk.out, HTk.out⟩
set_option maxHeartbeats 6400000 in
theorem ldListS_w (W : World) (X : Nat) (b : ByteArray) (w : World) (h : Bld W X b w) (hb : b.size ≤ 35184372088832) (xs : List Sn) (hl : xs.length ≤ 4096) (hx : ∀ x ∈ xs, SnOk x ∧ mayS x = true) (v : Value) (hv : Rg encS 5 W v xs) :
    Calls Tryz.prog 60 #[.pointer (some ⟨X, 0, none⟩), v, .func (.func 61) #[.pointer (some ⟨X, 0, none⟩)] #[]] w fun e w' => e = .returned (.tuple #[]) ∧ Bld W X (b ++ listB seenB xs) w' ∧ WrT X w w' := by
  have HR := hid hv
  have HX := hid hx
  obtain ⟨a, cap, rfl, -, -, -, -⟩ := hv
  have HQ : Hid (0 < xs.length → ∃ g o, a = some ⟨g, o, none⟩) := hid (fun hp => by
    obtain ⟨g, o, c, e⟩ := rg_pos HR.out hp
    injection e with e1
    exact ⟨g, o, e1⟩)
  have HG : Hid (∀ k : Nat, k < xs.length → ∃ y, xs[k]? = some y) := hid (fun k hk => ⟨xs[k], List.getElem?_eq_getElem hk⟩)
  have HT0 : Hid (∀ (k : Nat) (y : Sn), xs[k]? = some y → catB seenB (xs.take (k + 1)) = catB seenB (xs.take k) ++ seenB y) := hid (fun k y hy => by rw [List.take_add_one, hy]; exact catB_next _ _ _)
  have HF : Hid (b ++ listB seenB xs = b ++ (encB xs.length ++ catB seenB (xs.take xs.length))) := hid (by rw [List.take_length]; rfl)
  have q0 : IntKind.u64.wrap (xs.length : Int) = (xs.length : Int) := wrap64 (by omega)
  have HC1 : Hid (cat [(xs.length : Int)] = encB xs.length) := hid (cat_one xs.length)
  have hs0 : (encB xs.length).size ≤ 8 := encB_size xs.length
  generalize hN : xs.length = n at *
  have k1 := kept_alloc (kept_refl w) (.cells #[.int .u64 (n : Int)] 53)
  have HG1 := hid (at_new w #[.int .u64 (n : Int)] 53)
  have HB1 := hid (bld_kept h k1)
  have HK1 := hid k1
  have hz := zeroN5
  clear k1 h hx
  go_enter Tryz.func60, Tryz.ntmps60
  go_wp2_with fail
  refine (ldNums_any W X b _ HB1.out (by omega) [(n : Int)] (by show 1 ≤ 4; omega) (by intro y hy; simp at hy; subst hy; omega) w.heap.size HG1.out).mono ?_
  rintro e w2 ⟨rfl, hb2, t2⟩
  rw [HC1.out] at hb2
  have HB2 := hid hb2
  have HT2 := hid (wrt_trans (wrt_kept HK1.out) t2)
  have hsz : (b ++ encB n).size ≤ b.size + 8 := by rw [ByteArray.size_append]; omega
  clear hb2 t2 q0 hs0
  go_wp2_with fail
  go_loopw [16] (fun iv wr => ∃ (k : Nat) (S : ByteArray), k ≤ n ∧ iv = .int .i64 (k : Int) ∧ S.size ≤ b.size + 8 + 2000 * k ∧ Hid (S = b ++ (encB n ++ catB seenB (xs.take k))) ∧ Hid (Bld W X S wr) ∧ Hid (WrT X w wr)) (fun iv _ => n - (intOf iv).toNat)
  case atStart => exact ⟨0, b ++ encB n, Nat.zero_le _, rfl, by omega, hid (by rw [List.take_zero, catB_nil, mapp_nil]), HB2, HT2⟩
  case round =>
    obtain ⟨k, S, hk, rfl, hS, HS, HBk, HTk⟩ := hrel
    by_cases hlt : k < n
    · have hltz : (k : Int) < (n : Int) := by omega
      obtain ⟨y, hy⟩ := HG.out k hlt
      obtain ⟨g1, o, rfl⟩ := HQ.out (by omega)
      obtain ⟨c0, c1, c2, c3, c4⟩ := rg_S (rg_kept encS_ok HR.out HBk.out.k) hy
      have HS2 : Hid (S ++ seenB y = b ++ (encB n ++ catB seenB (xs.take (k + 1)))) := hid (by rw [HT0.out k y hy, HS.out]; simp only [ByteArray.append_assoc])
      have hyP := HX.out y (List.mem_of_getElem? hy)
      have hsy : (seenB y).size ≤ 2000 := (by have := seenB_le y; have := (mayS_facts hyP.2).1; omega)
      have HKx := hid (kept_alloc (kept_refl wr) (.cells #[.string y.key, .int .u64 y.s.p, .int .u32 y.s.l, .int .u8 y.s.n, .int .u8 y.kind] 59))
      clear hy
      go_wp2_with fail
      refine (ldSeen_w W X S _ (bld_kept HBk.out HKx.out) (by omega) y hyP).mono ?_
      rintro e w3 ⟨rfl, hb3, t3⟩
      have HB3 := hid hb3
      have HT3 := hid (wrt_trans HTk.out (wrt_trans (wrt_kept HKx.out) t3))
      clear hb3 t3 c0 c1 c2 c3 c4
      go_wp2_with fail
      go_roundw
      case rel => exact ⟨k + 1, S ++ seenB y, by omega, by go_num, by rw [ByteArray.size_append]; omega, HS2, HB3, HT3⟩
      case measure => simp [intOf]; omega
    · have hltz : ¬ (k : Int) < (n : Int) := by omega
      have e : k = n := by omega
      subst e
      have HE : Hid (b ++ listB seenB xs = S) := hid (by rw [HF.out, HS.out])
      go_wp2_with fail
      refine bodyPost_end (v := .tuple #[]) (by kernel_rfl) rfl ?_
      exact ⟨rfl, by rw [HE.out]; exact HBk.out, HTk.out⟩
set_option maxHeartbeats 6400000 in
theorem ldListG_w (W : World) (X : Nat) (b : ByteArray) (w : World) (h : Bld W X b w) (hb : b.size ≤ 35184372088832) (xs : List Int) (hl : xs.length ≤ 4096) (hx : ∀ x ∈ xs, u64Ok x) (v : Value) (hv : Rg encG 1 W v xs) :
    Calls Tryz.prog 62 #[.pointer (some ⟨X, 0, none⟩), v, .func (.func 63) #[.pointer (some ⟨X, 0, none⟩)] #[]] w fun e w' => e = .returned (.tuple #[]) ∧ Bld W X (b ++ listB digB xs) w' ∧ WrT X w w' := by
  have HR := hid hv
  have HX := hid hx
  obtain ⟨a, cap, rfl, -, -, -, -⟩ := hv
  have HQ : Hid (0 < xs.length → ∃ g o, a = some ⟨g, o, none⟩) := hid (fun hp => by
    obtain ⟨g, o, c, e⟩ := rg_pos HR.out hp
    injection e with e1
    exact ⟨g, o, e1⟩)
  have HG : Hid (∀ k : Nat, k < xs.length → ∃ y, xs[k]? = some y) := hid (fun k hk => ⟨xs[k], List.getElem?_eq_getElem hk⟩)
  have HT0 : Hid (∀ (k : Nat) (y : Int), xs[k]? = some y → catB digB (xs.take (k + 1)) = catB digB (xs.take k) ++ digB y) := hid (fun k y hy => by rw [List.take_add_one, hy]; exact catB_next _ _ _)
  have HF : Hid (b ++ listB digB xs = b ++ (encB xs.length ++ catB digB (xs.take xs.length))) := hid (by rw [List.take_length]; rfl)
  have q0 : IntKind.u64.wrap (xs.length : Int) = (xs.length : Int) := wrap64 (by omega)
  have HC1 : Hid (cat [(xs.length : Int)] = encB xs.length) := hid (cat_one xs.length)
  have hs0 : (encB xs.length).size ≤ 8 := encB_size xs.length
  generalize hN : xs.length = n at *
  have k1 := kept_alloc (kept_refl w) (.cells #[.int .u64 (n : Int)] 53)
  have HG1 := hid (at_new w #[.int .u64 (n : Int)] 53)
  have HB1 := hid (bld_kept h k1)
  have HK1 := hid k1
  have hz0 : True := trivial
  clear k1 h hx
  go_enter Tryz.func62, Tryz.ntmps62
  go_wp2_with fail
  refine (ldNums_any W X b _ HB1.out (by omega) [(n : Int)] (by show 1 ≤ 4; omega) (by intro y hy; simp at hy; subst hy; omega) w.heap.size HG1.out).mono ?_
  rintro e w2 ⟨rfl, hb2, t2⟩
  rw [HC1.out] at hb2
  have HB2 := hid hb2
  have HT2 := hid (wrt_trans (wrt_kept HK1.out) t2)
  have hsz : (b ++ encB n).size ≤ b.size + 8 := by rw [ByteArray.size_append]; omega
  clear hb2 t2 q0 hs0
  go_wp2_with fail
  go_loopw [16] (fun iv wr => ∃ (k : Nat) (S : ByteArray), k ≤ n ∧ iv = .int .i64 (k : Int) ∧ S.size ≤ b.size + 8 + 2000 * k ∧ Hid (S = b ++ (encB n ++ catB digB (xs.take k))) ∧ Hid (Bld W X S wr) ∧ Hid (WrT X w wr)) (fun iv _ => n - (intOf iv).toNat)
  case atStart => exact ⟨0, b ++ encB n, Nat.zero_le _, rfl, by omega, hid (by rw [List.take_zero, catB_nil, mapp_nil]), HB2, HT2⟩
  case round =>
    obtain ⟨k, S, hk, rfl, hS, HS, HBk, HTk⟩ := hrel
    by_cases hlt : k < n
    · have hltz : (k : Int) < (n : Int) := by omega
      obtain ⟨y, hy⟩ := HG.out k hlt
      obtain ⟨g1, o, rfl⟩ := HQ.out (by omega)
      have c0 := rg_G (rg_kept encG_ok HR.out HBk.out.k) hy
      have HS2 : Hid (S ++ digB y = b ++ (encB n ++ catB digB (xs.take (k + 1)))) := hid (by rw [HT0.out k y hy, HS.out]; simp only [ByteArray.append_assoc])
      have hyP := HX.out y (List.mem_of_getElem? hy)
      have hsy : (digB y).size ≤ 2000 := (by have := digB_le y; omega)
      have HKx := hid (kept_refl wr)
      clear hy
      go_wp2_with fail
      refine (ldDig_w W X S _ (bld_kept HBk.out HKx.out) (by omega) y hyP).mono ?_
      rintro e w3 ⟨rfl, hb3, t3⟩
      have HB3 := hid hb3
      have HT3 := hid (wrt_trans HTk.out (wrt_trans (wrt_kept HKx.out) t3))
      clear hb3 t3 c0
      go_wp2_with fail
      go_roundw
      case rel => exact ⟨k + 1, S ++ digB y, by omega, by go_num, by rw [ByteArray.size_append]; omega, HS2, HB3, HT3⟩
      case measure => simp [intOf]; omega
    · have hltz : ¬ (k : Int) < (n : Int) := by omega
      have e : k = n := by omega
      subst e
      have HE : Hid (b ++ listB digB xs = S) := hid (by rw [HF.out, HS.out])
      go_wp2_with fail
      refine bodyPost_end (v := .tuple #[]) (by kernel_rfl) rfl ?_
      exact ⟨rfl, by rw [HE.out]; exact HBk.out, HTk.out⟩
end Go.Proofs.YtioeidhblbfgmaaGreat
