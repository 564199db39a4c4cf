/- Rows of nodes and of answers in memory; the contract of the reference's Same. -/
import Derived.Test.YtjmldnbepajnoaaRAskMath
import Derived.Test.YtjmldnbepajnoaaRGRows
import Derived.Test.YtjmldnbepajnoaaRRows
import Derived.BigQuiet
import Derived.Test.YtjmldnbepajnoaaRGObj
import Derived.Deep.DeepMust
import Derived.Deep.Upon
import Derived.Deep.RegionHeld3
namespace Go.Proofs.YtjmldnbepajnoaaR
open Go.ChangeShapes Go.WideShapes Go.ChangeAt Go.RowKit
set_option linter.unusedVariables false
set_option linter.unusedSimpArgs false
set_option maxRecDepth 100000

theorem kept_drewN {W w : World} (h : Kept W w) (n : Nat) : Kept W (w.drewN n) := h
theorem says_bool {x y : Bool} (e : x = y) : Ending.returned (.bool x) = Ending.returned (.bool y) := congrArg (fun z => Ending.returned (.bool z)) e
def encU (x : Int) : List Value := [.int .u8 x]
theorem encU_ok : Enc encU 1 := ⟨by decide, fun _ => rfl, fun x v hv => by
  simp only [encU, List.mem_cons, List.not_mem_nil, or_false] at hv
  rcases hv with rfl
  rfl⟩
theorem infoU : (Try.prog.info? 5).map (fun i => (i.zero, i.size, i.bytes)) = some (some (.int .u8 0), 1, 1) := by kernel_rfl
theorem tyU : TyG Try.prog 22 5 1 1 := by
  obtain ⟨i0, hi, hz0, hz1, hz2⟩ := info_parts infoU
  exact ⟨Try.underlying22, i0, _, hi, hz0, hz1, hz2, rfl⟩
theorem rg_one {α : Type} {enc : α → List Value} (he : ∀ x, ∃ v, enc x = [v]) {w : World} {g o n cap : Nat} {xs : List α} (h : Rg enc 1 w (.slice (some ⟨g, o, none⟩) n cap) xs) {i : Nat} {x : α} (hx : xs[i]? = some x) {v : Value} (hv : enc x = [v]) : w.cell? ⟨g, o + i, none⟩ = some v := by
  obtain ⟨a, c, e, _, _, _, h⟩ := h
  injection e with e1 e2 e3
  have hi := (List.getElem?_eq_some_iff.1 hx).1
  obtain ⟨g', o', e4, hc⟩ := h (by omega)
  rw [← e1] at e4
  injection e4 with e4
  injection e4 with e4 e5
  subst e4 e5
  have := hc i x 0 v hx (by rw [hv]; rfl)
  rw [Nat.mul_one, Nat.add_zero] at this
  exact this
theorem rg_U {w : World} {g o n cap : Nat} {xs : List Int} (h : Rg encU 1 w (.slice (some ⟨g, o, none⟩) n cap) xs) {i : Nat} {x : Int} (hx : xs[i]? = some x) : w.cell? ⟨g, o + i, none⟩ = some (.int .u8 x) := rg_one (fun x => ⟨_, rfl⟩) h hx rfl
theorem rg_pos {α : Type} {enc : α → List Value} {c : Nat} {w : World} {v : Value} {xs : List α} (h : Rg enc c w v xs) (hp : 0 < xs.length) : ∃ g o cap, v = .slice (some ⟨g, o, none⟩) xs.length cap := by
  obtain ⟨a, cap, rfl, _, _, _, h⟩ := h
  obtain ⟨g, o, rfl, _⟩ := h hp
  exact ⟨g, o, cap, rfl⟩
theorem take_next {α : Type} {l : List α} {k : Nat} {y : α} (h : l[k]? = some y) : l.take (k + 1) = l.take k ++ [y] := by
  have hk := (List.getElem?_eq_some_iff.1 h).1
  have e2 := (List.getElem?_eq_some_iff.1 h).2
  rw [List.take_succ_eq_append_getElem hk, e2]
def okU (x : Int) : Prop := 0 ≤ x ∧ x < 256
def U8 (l : List Int) : Prop := ∀ n ∈ l, 0 ≤ n ∧ n < 256
def intOf : Value → Int
  | .int _ q => q
  | _ => 0
structure Opn where
  node : Int
  x : Rp
def encP (x : Rp) : List Value := [.bool x.has, .bool x.past, .string x.r.key, .int .u64 x.r.s.p, .int .u32 x.r.s.l, .int .u8 x.r.s.n, .int .u8 x.r.kind, .int .u32 x.r.flags, .int .u64 x.r.exp, .string x.r.body]
def encO (o : Opn) : List Value := [.int .u8 o.node, .bool o.x.has, .bool o.x.past, .string o.x.r.key, .int .u64 o.x.r.s.p, .int .u32 o.x.r.s.l, .int .u8 o.x.r.s.n, .int .u8 o.x.r.kind, .int .u32 o.x.r.flags, .int .u64 o.x.r.exp, .string o.x.r.body]
theorem encO_ok : Enc encO 11 := ⟨by decide, fun _ => rfl, fun x v hv => by
  simp only [encO, List.mem_cons, List.not_mem_nil, or_false] at hv
  rcases hv with rfl | rfl | rfl | rfl | rfl | rfl | rfl | rfl | rfl | rfl | rfl <;> rfl⟩
def OpOk (o : Opn) : Prop := okU o.node ∧ o.x.r.ok
theorem rg_all {α : Type} {enc : α → List Value} {c : Nat} {w : World} {g o n cap : Nat} {xs : List α} (h : Rg enc c w (.slice (some ⟨g, o, none⟩) n cap) xs) {i : Nat} {x : α} (hx : xs[i]? = some x) : ∀ j u, (enc x)[j]? = some u → w.cell? ⟨g, o + i * c + j, none⟩ = some u := by
  obtain ⟨a, cc, e, _, _, _, h⟩ := h
  injection e with e1 e2 e3
  have hi := (List.getElem?_eq_some_iff.1 hx).1
  obtain ⟨g', o', e4, hc⟩ := h (by omega)
  rw [← e1] at e4
  injection e4 with e4
  injection e4 with e4 e5
  subst e4 e5
  exact fun j u hu => hc i x j u hx hu
theorem rg_O {w : World} {g o n cap : Nat} {xs : List Opn} (h : Rg encO 11 w (.slice (some ⟨g, o, none⟩) n cap) xs) {i : Nat} {x : Opn} (hx : xs[i]? = some x) : w.cell? ⟨g, o + i * 11, none⟩ = some (.int .u8 x.node) ∧ w.cell? ⟨g, o + i * 11 + 1, none⟩ = some (.bool x.x.has) ∧ w.cell? ⟨g, o + i * 11 + 2, none⟩ = some (.bool x.x.past) ∧ w.cell? ⟨g, o + i * 11 + 3, none⟩ = some (.string x.x.r.key) ∧ w.cell? ⟨g, o + i * 11 + 4, none⟩ = some (.int .u64 x.x.r.s.p) ∧ w.cell? ⟨g, o + i * 11 + 5, none⟩ = some (.int .u32 x.x.r.s.l) ∧ w.cell? ⟨g, o + i * 11 + 6, none⟩ = some (.int .u8 x.x.r.s.n) ∧ w.cell? ⟨g, o + i * 11 + 7, none⟩ = some (.int .u8 x.x.r.kind) ∧ w.cell? ⟨g, o + i * 11 + 8, none⟩ = some (.int .u32 x.x.r.flags) ∧ w.cell? ⟨g, o + i * 11 + 9, none⟩ = some (.int .u64 x.x.r.exp) ∧ w.cell? ⟨g, o + i * 11 + 10, none⟩ = some (.string x.x.r.body) :=
  ⟨rg_all h hx 0 _ rfl, rg_all h hx 1 _ rfl, rg_all h hx 2 _ rfl, rg_all h hx 3 _ rfl, rg_all h hx 4 _ rfl, rg_all h hx 5 _ rfl, rg_all h hx 6 _ rfl, rg_all h hx 7 _ rfl, rg_all h hx 8 _ rfl, rg_all h hx 9 _ rfl, rg_all h hx 10 _ rfl⟩
set_option maxHeartbeats 1600000 in
theorem sameU_any (l : List Int) (hn : l.length ≤ 4096) (va vb : Value) (w : World) (ha : Rg encU 1 w va l) (hb : Rg encU 1 w vb l) : Calls Try.prog 12 #[va, vb] w fun e w' => e = .returned (.bool true) ∧ Kept w w' := by
  have HRa := hid ha
  have HRb := hid hb
  obtain ⟨a, ca, rfl, -, -, -, -⟩ := ha
  obtain ⟨b, cb, rfl, -, -, -, -⟩ := hb
  have HG : Hid (∀ k, k < l.length → ∃ y, l[k]? = some y) := hid (fun k hk => ⟨l[k], List.getElem?_eq_getElem hk⟩)
  have HPa : Hid (0 < l.length → ∃ g o, a = some ⟨g, o, none⟩) := hid (fun hp => by
    obtain ⟨g, o, c, e⟩ := rg_pos HRa.out hp
    injection e with e1
    exact ⟨g, o, e1⟩)
  have HPb : Hid (0 < l.length → ∃ g o, b = some ⟨g, o, none⟩) := hid (fun hp => by
    obtain ⟨g, o, c, e⟩ := rg_pos HRb.out hp
    injection e with e1
    exact ⟨g, o, e1⟩)
  generalize hm : l.length = m at *
  clear hm
  go_enter Try.func12, Try.ntmps12
  go_wp2_with fail
  go_loopw [13] (fun j wr => ∃ k : Nat, k ≤ m ∧ j = .int .i64 k ∧ Hid (Kept w wr)) (fun j _ => m - (intOf j).toNat)
  case atStart => exact ⟨0, Nat.zero_le _, rfl, hid (kept_refl w)⟩
  case round =>
    obtain ⟨k, hk, rfl, HK⟩ := hrel
    by_cases hlt : k < m
    · obtain ⟨x, hx⟩ := HG.out k hlt
      obtain ⟨g1, o1, rfl⟩ := HPa.out (by omega)
      obtain ⟨g2, o2, rfl⟩ := HPb.out (by omega)
      have e1 := rg_U (rg_kept encU_ok HRa.out HK.out) hx
      have e2 := rg_U (rg_kept encU_ok HRb.out HK.out) hx
      have hne : (x != x) = false := by simp
      clear hx
      go_wp2_with fail
      go_quiet (fail)
      go_wp2_with fail
      go_roundw
      case rel => exact ⟨k + 1, by omega, by go_num, hid (kept_drewN HK.out _)⟩
      case measure => simp [intOf]; omega
    · have he : k = m := by omega
      subst he
      go_wp2_with fail
      go_ret
      exact ⟨rfl, HK.out⟩
end Go.Proofs.YtjmldnbepajnoaaR
