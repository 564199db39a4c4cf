/- Rows of counts, of names and of calls in memory; the contracts of the reference's Get and Same. -/
import Derived.Test.YtibidhmahjbciaaCtMath
import Derived.Test.YtibidhmahjbciaaGRows
import Derived.Test.YtibidhmahjbciaaGMore
import Derived.Test.YtibidhmahjbciaaGPut
import Derived.Test.YtibidhmahjbciaaGCopy
import Derived.Test.YtibidhmahjbciaaRows
import Derived.BigQuiet
import Derived.Deep.DeepMust
import Derived.Deep.Upon
import Derived.Deep.RegionHeld3
namespace Go.Proofs.Ytibidhmahjbciaa
open Go.ChangeShapes Go.WideShapes Go.ChangeAt Go.RowKit
set_option linter.unusedVariables false
set_option linter.unusedSimpArgs false
set_option maxRecDepth 100000

theorem kept_drewN {W w : World} (h : Kept W w) (n : Nat) : Kept W (w.drewN n) := h
def intOf : Value → Int
  | .int _ q => q
  | _ => 0
def encC (x : Ct) : List Value := [.string x.name, .int .u64 x.n]
theorem encC_ok : Enc encC 2 := ⟨by decide, fun _ => rfl, fun x v hv => by
  simp only [encC, List.mem_cons, List.not_mem_nil, or_false] at hv
  rcases hv with rfl | rfl <;> rfl⟩
def encK (x : ByteArray) : List Value := [.string x]
theorem encK_ok : Enc encK 1 := ⟨by decide, fun _ => rfl, fun x v hv => by
  simp only [encK, List.mem_cons, List.not_mem_nil, or_false] at hv
  rcases hv with rfl
  rfl⟩
def encG (x : Int) : List Value := [.int .u64 x]
theorem encG_ok : Enc encG 1 := ⟨by decide, fun _ => rfl, fun x v hv => by
  simp only [encG, List.mem_cons, List.not_mem_nil, or_false] at hv
  rcases hv with rfl
  rfl⟩
structure Opn where
  reset : Bool
  name : ByteArray
  n : Int
def encO (o : Opn) : List Value := [.bool o.reset, .string o.name, .int .u64 o.n]
theorem encO_ok : Enc encO 3 := ⟨by decide, fun _ => rfl, fun x v hv => by
  simp only [encO, List.mem_cons, List.not_mem_nil, or_false] at hv
  rcases hv with rfl | rfl | rfl <;> rfl⟩
def OpOk (o : Opn) : Prop := 0 ≤ o.n ∧ o.n ≤ topC
theorem infoC : (Try.prog.info? 46).map (fun i => (i.zero, i.size, i.bytes)) = some (some (.agg #[.string ⟨#[]⟩, .int .u64 0]), 2, 24) := by kernel_rfl
theorem tyC : TyG Try.prog 29 46 2 24 := by
  obtain ⟨i0, hi, hz0, hz1, hz2⟩ := info_parts infoC
  exact ⟨Try.underlying29, i0, _, hi, hz0, hz1, hz2, rfl⟩
theorem rg_pos {α : Type} {enc : α → List Value} {c : Nat} {w : World} {v : Value} {xs : List α} (h : Rg enc c w v xs) (hp : 0 < xs.length) : ∃ g o cap, v = .slice (some ⟨g, o, none⟩) xs.length cap := by
  obtain ⟨a, cap, rfl, _, _, _, h⟩ := h
  obtain ⟨g, o, rfl, _⟩ := h hp
  exact ⟨g, o, cap, rfl⟩
theorem take_next {α : Type} {l : List α} {k : Nat} {y : α} (h : l[k]? = some y) : l.take (k + 1) = l.take k ++ [y] := by
  have hk := (List.getElem?_eq_some_iff.1 h).1
  have e2 := (List.getElem?_eq_some_iff.1 h).2
  rw [List.take_succ_eq_append_getElem hk, e2]
theorem rg_all {α : Type} {enc : α → List Value} {c : Nat} {w : World} {g o n cap : Nat} {xs : List α} (h : Rg enc c w (.slice (some ⟨g, o, none⟩) n cap) xs) {i : Nat} {x : α} (hx : xs[i]? = some x) : ∀ j u, (enc x)[j]? = some u → w.cell? ⟨g, o + i * c + j, none⟩ = some u := by
  obtain ⟨a, cc, e, _, _, _, h⟩ := h
  injection e with e1 e2 e3
  have hi := (List.getElem?_eq_some_iff.1 hx).1
  obtain ⟨g', o', e4, hc⟩ := h (by omega)
  rw [← e1] at e4
  injection e4 with e4
  injection e4 with e4 e5
  subst e4 e5
  exact fun j u hu => hc i x j u hx hu
theorem rg_C {w : World} {g o n cap : Nat} {xs : List Ct} (h : Rg encC 2 w (.slice (some ⟨g, o, none⟩) n cap) xs) {i : Nat} {x : Ct} (hx : xs[i]? = some x) : w.cell? ⟨g, o + i * 2, none⟩ = some (.string x.name) ∧ w.cell? ⟨g, o + i * 2 + 1, none⟩ = some (.int .u64 x.n) :=
  ⟨rg_all h hx 0 _ rfl, rg_all h hx 1 _ rfl⟩
theorem rg_O {w : World} {g o n cap : Nat} {xs : List Opn} (h : Rg encO 3 w (.slice (some ⟨g, o, none⟩) n cap) xs) {i : Nat} {x : Opn} (hx : xs[i]? = some x) : w.cell? ⟨g, o + i * 3, none⟩ = some (.bool x.reset) ∧ w.cell? ⟨g, o + i * 3 + 1, none⟩ = some (.string x.name) ∧ w.cell? ⟨g, o + i * 3 + 2, none⟩ = some (.int .u64 x.n) :=
  ⟨rg_all h hx 0 _ rfl, rg_all h hx 1 _ rfl, rg_all h hx 2 _ rfl⟩
theorem rg_K {w : World} {g o n cap : Nat} {xs : List ByteArray} (h : Rg encK 1 w (.slice (some ⟨g, o, none⟩) n cap) xs) {i : Nat} {x : ByteArray} (hx : xs[i]? = some x) : w.cell? ⟨g, o + i, none⟩ = some (.string x) := by
  have := rg_all h hx 0 _ rfl
  rwa [Nat.mul_one, Nat.add_zero] at this
theorem rg_G {w : World} {g o n cap : Nat} {xs : List Int} (h : Rg encG 1 w (.slice (some ⟨g, o, none⟩) n cap) xs) {i : Nat} {x : Int} (hx : xs[i]? = some x) : w.cell? ⟨g, o + i, none⟩ = some (.int .u64 x) := by
  have := rg_all h hx 0 _ rfl
  rwa [Nat.mul_one, Nat.add_zero] at this
theorem og_cell {α : Type} {enc : α → List Value} {c T B q n cap : Nat} {w : World} {xs : List α} (he : Enc enc c) (h : Og enc c T w B (.slice (some ⟨q, 0, none⟩) n cap) xs) {i j : Nat} {x : α} {u : Value} (hx : xs[i]? = some x) (hu : (enc x)[j]? = some u) : w.cell? ⟨q, i * c + j, none⟩ = some u := by
  have := rg_all (rg_own he h) hx j u hu
  rwa [Nat.zero_add] at this
theorem og_C {T B q n cap : Nat} {w : World} {xs : List Ct} (h : Og encC 2 T w B (.slice (some ⟨q, 0, none⟩) n cap) xs) {i : Nat} {x : Ct} (hx : xs[i]? = some x) : w.cell? ⟨q, i * 2, none⟩ = some (.string x.name) ∧ w.cell? ⟨q, i * 2 + 1, none⟩ = some (.int .u64 x.n) :=
  ⟨og_cell encC_ok h (j := 0) hx rfl, og_cell encC_ok h (j := 1) hx rfl⟩
/- The reference's Get. -/
set_option maxHeartbeats 1600000 in
theorem rget_any (l : List Ct) (q : ByteArray) (v : Value) (w : World) (h : Rg encC 2 w v l) : Calls Try.prog 15 #[v, .string q] w fun e w' => e = .returned (.int .u64 (getC l q)) ∧ Kept w w' := by
  have HR := hid h
  obtain ⟨a, cap, rfl, hc1, hc2, -, -⟩ := h
  have HG : Hid (∀ k, k < l.length → ∃ y, l[k]? = some y) := hid (fun k hk => ⟨l[k], List.getElem?_eq_getElem hk⟩)
  have HP : Hid (0 < l.length → ∃ g o, a = some ⟨g, o, none⟩) := hid (fun hp => by
    obtain ⟨g, o, c, e⟩ := rg_pos HR.out hp
    injection e with e1
    exact ⟨g, o, e1⟩)
  have HLe := hid (place_le l q)
  have HH : Hid (∀ i x, l[i]? = some x → i ≤ placeC l q → sameT x.name q = true → getC l q = x.n) := hid (fun i x hx hi hs => by
    unfold getC
    rw [place_hit hx hi hs, hx])
  have HN : Hid (placeC l q = l.length → getC l q = 0) := hid (fun e => by
    unfold getC
    rw [e, List.getElem?_eq_none (Nat.le_refl _)])
  have hmx : l.length ≤ maxLen := by omega
  clear hc1 hc2
  generalize hm : l.length = m at *
  clear hm
  go_enter Try.func15, Try.ntmps15
  go_wp2_with fail
  go_loopw [8] (fun j wr => ∃ k : Nat, k ≤ m ∧ j = .int .i64 (k : Int) ∧ Hid (k ≤ placeC l q) ∧ Hid (Kept w wr)) (fun j _ => m - (intOf j).toNat)
  case atStart => exact ⟨0, Nat.zero_le _, rfl, hid (Nat.zero_le _), hid (kept_refl _)⟩
  case round =>
    obtain ⟨k, hk, rfl, hpk, HK⟩ := hrel
    by_cases hlt : k < m
    · obtain ⟨x, hx⟩ := HG.out k hlt
      obtain ⟨g, o, rfl⟩ := HP.out (by omega)
      obtain ⟨c0, c1⟩ := rg_C (rg_kept encC_ok HR.out HK.out) hx
      unfold maxLen at hmx
      cases hs : sameT x.name q with
      | true =>
        have HE := hid (HH.out k x hx hpk.out hs)
        unfold sameT at hs
        clear hx
        go_wp2_with fail
        go_ret
        exact ⟨by rw [HE.out]; rfl, HK.out⟩
      | false =>
        have HE := hid (place_on hx hpk.out hs)
        unfold sameT at hs
        clear hx
        go_wp2_with fail
        go_roundw
        case rel => exact ⟨k + 1, by omega, by go_num, HE, HK⟩
        case measure => simp [intOf]; omega
    · have he : k = m := by omega
      subst he
      have HE := hid (HN.out (by have := HLe.out; have := hpk.out; omega))
      go_wp2_with fail
      go_ret
      exact ⟨by rw [HE.out]; rfl, HK.out⟩
/- The reference's Same, of two that are the same. -/
theorem eq_stat (x : Ct) (w : World) : (Op.equalIn 10000 46 (.agg #[.string x.name, .int .u64 x.n]) (.agg #[.string x.name, .int .u64 x.n])).run Try.prog w = .ok true w := by
  go_simp
set_option maxHeartbeats 3200000 in
theorem rsame_any (l : List Ct) (va vb : Value) (w : World) (ha : Rg encC 2 w va l) (hb : Rg encC 2 w vb l) : Calls Try.prog 10 #[va, vb] w fun e w' => e = .returned (.bool true) ∧ Kept w w' := by
  have HA := hid ha
  have HB := hid hb
  obtain ⟨a, ca, rfl, hc1, hc2, -, -⟩ := ha
  obtain ⟨b, cb, rfl, -, -, -, -⟩ := hb
  have HG : Hid (∀ k, k < l.length → ∃ y, l[k]? = some y) := hid (fun k hk => ⟨l[k], List.getElem?_eq_getElem hk⟩)
  have HP : Hid (0 < l.length → (∃ g o, a = some ⟨g, o, none⟩) ∧ ∃ g o, b = some ⟨g, o, none⟩) := hid (fun hp => by
    obtain ⟨g, o, c, e⟩ := rg_pos HA.out hp
    obtain ⟨g', o', c', e'⟩ := rg_pos HB.out hp
    injection e with e1
    injection e' with e2
    exact ⟨⟨g, o, e1⟩, ⟨g', o', e2⟩⟩)
  have hn : l.length ≤ maxLen := by omega
  clear hc1 hc2
  unfold maxLen at hn
  generalize hm : l.length = m at *
  have hne : ((m : Int) != (m : Int)) = false := by simp
  clear hm
  go_enter Try.func10, Try.ntmps10
  go_wp2_with fail
  go_loopw [13] (fun iv wr => ∃ i : Nat, i ≤ m ∧ iv = .int .i64 (i : Int) ∧ Hid (Kept w wr)) (fun iv _ => m - (intOf iv).toNat)
  case atStart => exact ⟨0, Nat.zero_le _, rfl, hid (kept_refl _)⟩
  case round =>
    obtain ⟨i, hi, rfl, HK⟩ := hrel
    by_cases hlt : i < m
    · obtain ⟨y, hy⟩ := HG.out i hlt
      obtain ⟨⟨g1, o1, rfl⟩, ⟨g2, o2, rfl⟩⟩ := HP.out (by omega)
      obtain ⟨p0, p1⟩ := rg_C (rg_kept encC_ok HA.out HK.out) hy
      obtain ⟨q0, q1⟩ := rg_C (rg_kept encC_ok HB.out HK.out) hy
      have heq := eq_stat y
      clear hy
      go_wp2_with fail
      go_quiet (fail)
      go_wp2_with fail
      go_roundw
      case rel => exact ⟨i + 1, by omega, by go_num, hid (kept_drewN HK.out _)⟩
      case measure => simp [intOf]; omega
    · have he : i = m := by omega
      subst he
      go_wp2_with fail
      go_ret
      exact ⟨rfl, HK.out⟩
end Go.Proofs.Ytibidhmahjbciaa
