/- Rows of nodes, of asks and of calls in memory; the contracts of the references' Same and SameRound. -/
import Derived.Test.YtgmcjnhijgnadaaProbeMath
import Derived.Test.YtgmcjnhijgnadaaGObj
import Derived.Test.YtgmcjnhijgnadaaRows
import Derived.BigQuiet
import Derived.Deep.DeepMust
import Derived.Deep.Upon
import Derived.Laws.IdiomStrings
namespace Go.Proofs.Ytgmcjnhijgnadaa
open Go.ChangeShapes Go.WideShapes Go.ChangeAt Go.RowKit
set_option linter.unusedVariables false
set_option linter.unusedSimpArgs false
set_option maxRecDepth 100000

theorem kept_drewN {W w : World} (h : Kept W w) (n : Nat) : Kept W (w.drewN n) := h
theorem says_bool {x y : Bool} (e : x = y) : Ending.returned (.bool x) = Ending.returned (.bool y) := congrArg (fun z => Ending.returned (.bool z)) e
structure Opn where
  kind : Int
  x : Int
  hv : Option Addr
  hc : Nat
  hs : List Int
  node : Int
def encU (x : Int) : List Value := [.int .u8 x]
def encA (a : Ask) : List Value := [.int .u8 a.helper, .int .u8 a.target]
def encO (o : Opn) : List Value := [.int .i64 o.kind, .int .u64 o.x, .slice o.hv o.hs.length o.hc, .int .u8 o.node]
theorem encU_ok : Enc encU 1 := ⟨by decide, fun _ => rfl, fun x v hv => by
  simp only [encU, List.mem_cons, List.not_mem_nil, or_false] at hv
  rcases hv with rfl
  rfl⟩
theorem encA_ok : Enc encA 2 := ⟨by decide, fun _ => rfl, fun x v hv => by
  simp only [encA, List.mem_cons, List.not_mem_nil, or_false] at hv
  rcases hv with rfl | rfl <;> rfl⟩
theorem encO_ok : Enc encO 4 := ⟨by decide, fun _ => rfl, fun x v hv => by
  simp only [encO, List.mem_cons, List.not_mem_nil, or_false] at hv
  rcases hv with rfl | rfl | rfl | rfl <;> rfl⟩
theorem infoU : (Try.prog.info? 5).map (fun i => (i.zero, i.size, i.bytes)) = some (some (.int .u8 0), 1, 1) := by kernel_rfl
theorem infoA : (Try.prog.info? 80).map (fun i => (i.zero, i.size, i.bytes)) = some (some (.agg #[.int .u8 0, .int .u8 0]), 2, 2) := by kernel_rfl
theorem tyU : TyG Try.prog 27 5 1 1 := by
  obtain ⟨i0, hi, hz0, hz1, hz2⟩ := info_parts infoU
  exact ⟨Try.underlying27, i0, _, hi, hz0, hz1, hz2, rfl⟩
theorem tyA : TyG Try.prog 37 80 2 2 := by
  obtain ⟨i0, hi, hz0, hz1, hz2⟩ := info_parts infoA
  exact ⟨Try.underlying37, i0, _, hi, hz0, hz1, hz2, rfl⟩
theorem zeroR (w : World) : (zeroValue 39).run Try.prog w = .ok (.agg #[.slice none 0 0, .slice none 0 0, .slice none 0 0]) w := by kernel_rfl
theorem zeroA (w : World) : (zeroValue 80).run Try.prog w = .ok (.agg #[.int .u8 0, .int .u8 0]) w := by kernel_rfl
theorem zeroO (w : World) : (zeroValue 36).run Try.prog w = .ok (.agg #[.int .i64 0, .int .u64 0, .slice none 0 0, .int .u8 0]) w := by kernel_rfl
theorem rg_all {α : Type} {enc : α → List Value} {c : Nat} {w : World} {g o n cap : Nat} {xs : List α} (h : Rg enc c w (.slice (some ⟨g, o, none⟩) n cap) xs) {i : Nat} {x : α} (hx : xs[i]? = some x) : ∀ j u, (enc x)[j]? = some u → w.cell? ⟨g, o + i * c + j, none⟩ = some u := by
  obtain ⟨a, cc, e, _, _, _, h⟩ := h
  injection e with e1 e2 e3
  have hi := (List.getElem?_eq_some_iff.1 hx).1
  obtain ⟨g', o', e4, hc⟩ := h (by omega)
  rw [← e1] at e4
  injection e4 with e4
  injection e4 with e4 e5
  subst e4 e5
  exact fun j u hu => hc i x j u hx hu
theorem rg_U {w : World} {g o n cap : Nat} {xs : List Int} (h : Rg encU 1 w (.slice (some ⟨g, o, none⟩) n cap) xs) {i : Nat} {x : Int} (hx : xs[i]? = some x) : w.cell? ⟨g, o + i, none⟩ = some (.int .u8 x) := by
  have := rg_all h hx 0 _ rfl
  rwa [Nat.mul_one, Nat.add_zero] at this
theorem rg_A {w : World} {g o n cap : Nat} {xs : List Ask} (h : Rg encA 2 w (.slice (some ⟨g, o, none⟩) n cap) xs) {i : Nat} {x : Ask} (hx : xs[i]? = some x) : w.cell? ⟨g, o + i * 2, none⟩ = some (.int .u8 x.helper) ∧ w.cell? ⟨g, o + i * 2 + 1, none⟩ = some (.int .u8 x.target) := ⟨rg_all h hx 0 _ rfl, rg_all h hx 1 _ rfl⟩
theorem rg_O {w : World} {g o n cap : Nat} {xs : List Opn} (h : Rg encO 4 w (.slice (some ⟨g, o, none⟩) n cap) xs) {i : Nat} {x : Opn} (hx : xs[i]? = some x) : w.cell? ⟨g, o + i * 4, none⟩ = some (.int .i64 x.kind) ∧ w.cell? ⟨g, o + i * 4 + 1, none⟩ = some (.int .u64 x.x) ∧ w.cell? ⟨g, o + i * 4 + 2, none⟩ = some (.slice x.hv x.hs.length x.hc) ∧ w.cell? ⟨g, o + i * 4 + 3, none⟩ = some (.int .u8 x.node) :=
  ⟨rg_all h hx 0 _ rfl, rg_all h hx 1 _ rfl, rg_all h hx 2 _ rfl, rg_all h hx 3 _ rfl⟩
theorem rg_pos {α : Type} {enc : α → List Value} {c : Nat} {w : World} {v : Value} {xs : List α} (h : Rg enc c w v xs) (hp : 0 < xs.length) : ∃ g o cap, v = .slice (some ⟨g, o, none⟩) xs.length cap := by
  obtain ⟨a, cap, rfl, _, _, _, h⟩ := h
  obtain ⟨g, o, rfl, _⟩ := h hp
  exact ⟨g, o, cap, rfl⟩
theorem take_next {α : Type} {l : List α} {k : Nat} {y : α} (h : l[k]? = some y) : l.take (k + 1) = l.take k ++ [y] := by
  have hk := (List.getElem?_eq_some_iff.1 h).1
  have e2 := (List.getElem?_eq_some_iff.1 h).2
  rw [List.take_succ_eq_append_getElem hk, e2]
def U8 (l : List Int) : Prop := ∀ n ∈ l, 0 ≤ n ∧ n < 256
set_option maxHeartbeats 1600000 in
theorem sameU_any (l : List Int) (hn : l.length ≤ 4096) (va vb : Value) (w : World) (ha : Rg encU 1 w va l) (hb : Rg encU 1 w vb l) : Calls Try.prog 16 #[va, vb] w fun e w' => e = .returned (.bool true) ∧ Kept w w' := by
  have HRa := hid ha
  have HRb := hid hb
  obtain ⟨a, ca, rfl, -, -, -, -⟩ := ha
  obtain ⟨b, cb, rfl, -, -, -, -⟩ := hb
  have HG : Hid (∀ k, k < l.length → ∃ y, l[k]? = some y) := hid (fun k hk => ⟨l[k], List.getElem?_eq_getElem hk⟩)
  have HPa : Hid (0 < l.length → ∃ g o, a = some ⟨g, o, none⟩) := hid (fun hp => by
    obtain ⟨g, o, c, e⟩ := rg_pos HRa.out hp
    injection e with e1
    exact ⟨g, o, e1⟩)
  have HPb : Hid (0 < l.length → ∃ g o, b = some ⟨g, o, none⟩) := hid (fun hp => by
    obtain ⟨g, o, c, e⟩ := rg_pos HRb.out hp
    injection e with e1
    exact ⟨g, o, e1⟩)
  generalize hm : l.length = m at *
  clear hm
  go_enter Try.func16, Try.ntmps16
  go_wp2_with fail
  go_loopw [13] (fun j wr => ∃ k : Nat, k ≤ m ∧ j = .int .i64 k ∧ Hid (Kept w wr)) (fun j _ => m - (intOf j).toNat)
  case atStart => exact ⟨0, Nat.zero_le _, rfl, hid (kept_refl w)⟩
  case round =>
    obtain ⟨k, hk, rfl, HK⟩ := hrel
    by_cases hlt : k < m
    · obtain ⟨x, hx⟩ := HG.out k hlt
      obtain ⟨g1, o1, rfl⟩ := HPa.out (by omega)
      obtain ⟨g2, o2, rfl⟩ := HPb.out (by omega)
      have e1 := rg_U (rg_kept encU_ok HRa.out HK.out) hx
      have e2 := rg_U (rg_kept encU_ok HRb.out HK.out) hx
      have hne : (x != x) = false := by simp
      clear hx
      go_wp2_with fail
      go_quiet (fail)
      go_wp2_with fail
      go_roundw
      case rel => exact ⟨k + 1, by omega, by go_num, hid (kept_drewN HK.out _)⟩
      case measure => simp [intOf]; omega
    · have he : k = m := by omega
      subst he
      go_wp2_with fail
      go_ret
      exact ⟨rfl, HK.out⟩
/- A row of nodes as a text. -/
def bytesOf (xs : List Int) : List UInt8 := xs.map (fun n => UInt8.ofNat n.toNat)
theorem nil_str (w : World) : (convert 27 9 (.slice none 0 0)).run Try.prog w = .ok (.string ⟨#[]⟩) w := by kernel_rfl
theorem bytes_at {xs : List Int} (hu : U8 xs) {j : Nat} (hj : j < (bytesOf xs).length) (hj2 : j < xs.length) : (((bytesOf xs)[j]'hj).toNat : Int) = xs[j] := by
  have e : (bytesOf xs)[j]'hj = UInt8.ofNat (xs[j]).toNat := by
    have h1 : (bytesOf xs)[j]? = some (UInt8.ofNat (xs[j]).toNat) := by unfold bytesOf; rw [List.getElem?_map, List.getElem?_eq_getElem hj2]; rfl
    rw [List.getElem?_eq_getElem hj] at h1
    exact Option.some.inj h1
  rw [e]
  have hb := hu xs[j] (List.getElem_mem hj2)
  rw [UInt8.toNat_ofNat']
  omega
theorem row_str {w : World} {v : Value} {xs : List Int} (hu : U8 xs) (h : Rg encU 1 w v xs) : (convert 27 9 v).run Try.prog w = .ok (.string ⟨(bytesOf xs).toArray⟩) w := by
  obtain ⟨a, cap, rfl, h1, h2, h3, h4⟩ := h
  cases a with
  | none =>
    have : xs = [] := List.eq_nil_of_length_eq_zero (by have := h3 rfl; omega)
    subst this
    have : cap = 0 := h3 rfl
    subst this
    exact nil_str w
  | some b =>
    have hl : (bytesOf xs).length = xs.length := by unfold bytesOf; simp
    have hcv := run_convert_bytes_back (P := Try.prog) w 27 9 5 b cap (bytesOf xs) Try.underlying27 Try.underlying5 Try.underlying9 (fun j hjj => by
      have hj : j < xs.length := by rw [← hl]; exact hjj
      obtain ⟨g, o, e, hc⟩ := h4 (by omega)
      injection e with e
      subst e
      have hx := List.getElem?_eq_getElem hj
      have := hc j xs[j] 0 _ hx rfl
      rw [Nat.mul_one, Nat.add_zero] at this
      rw [addr_plus, this, bytes_at hu hjj hj])
    rw [hl] at hcv
    exact hcv
end Go.Proofs.Ytgmcjnhijgnadaa
