/- What a call may turn, as a set of blocks: how such facts come together. No condition. Rows of a message in memory; what stays. No condition. Messages as values and in memory, and their rows. No condition. The reference's SameNews, Same (of records) and SameSeen, of two that are the same; Same of messages that are the same. Rows have at most 100000 members. The contracts of the functions on stamps: each answers what the plain function does, and turns nothing that was there. No condition. -/
import Derived.Test.YtioeidhblbfgmaaGreatY13
import Derived.Test.YtioeidhblbfgmaaGreatY11
import Derived.Test.YtioeidhblbfgmaaGreatY12
import Derived.Test.YtioeidhblbfgmaaGreatY2
import Derived.Test.YtioeidhblbfgmaaGreatY3
import Derived.Test.YtioeidhblbfgmaaGreatRows
import Derived.BigQuiet
import Derived.Deep.DeepMust
import Derived.Deep.Upon
import Derived.Deep.RegionHeld3
import Derived.IntWalk

namespace Go.Proofs.YtioeidhblbfgmaaGreat
open Go.ChangeShapes Go.WideShapes Go.ChangeAt Go.RowKit
set_option linter.unusedVariables false
set_option linter.unusedSimpArgs false

section
variable {F F2 : Nat → Prop} {w u u' : World}
theorem tn_kept (k : Kept u u') : Tn F u u' := ⟨kept_os k, kept_output k, k.2, fun b hb _ => kept_block k hb⟩
theorem tn_comp (h : Tn F w u) (g : Tn F2 u u') (hf : ∀ b, F2 b → F b ∨ w.heap.size ≤ b) : Tn F w u' :=
  ⟨g.1.trans h.1, g.2.1.trans h.2.1, Nat.le_trans h.2.2.1 g.2.2.1, fun b hb hn => (g.2.2.2 b (Nat.lt_of_lt_of_le hb h.2.2.1) (fun f => (hf b f).elim hn (fun q => by omega))).trans (h.2.2.2 b hb hn)⟩
theorem tn_next (h : Tn F w u) (k : Kept u u') : Tn F w u' := tn_comp h (tn_kept (F := fun _ => False) k) (fun b hb => hb.elim)
theorem tn_turn {G : Nat} (t : Turn G u u') : Tn (fun b => b = G) u u' := ⟨t.1, t.2.1, t.2.2.1, fun b hb hn => t.2.2.2 b hb hn⟩
theorem tn_set (u : World) (X o : Nat) (v : Value) : Tn (fun b => b = X) u (u.setCell ⟨X, o, none⟩ v) := tn_turn (turn_set (Turn.refl X u) o v)
theorem tn_grown {r : Option Nat} (g : u.grownBy u' r) : Tn (fun b => r = some b) u u' := ⟨g.os, g.output, g.size, fun b hb hn => g.block b hb (fun e => hn e.symm)⟩
theorem at_tn {X T : Nat} {cs : Array Value} (h : At u X cs T) (g : Tn F u u') (hn : ¬ F X) : At u' X cs T := (g.2.2.2 X (at_lt h) hn).trans h
theorem og_tn {α : Type} {enc : α → List Value} {c T B : Nat} {v : Value} {xs : List α} (h : Og enc c T u B v xs) (g : Tn F u u') (hn : ∀ b, v.ownBlock = some b → ¬ F b) : Og enc c T u' B v xs := og_block h (fun q cur hq ha => g.2.2.2 q (at_lt ha) (hn q hq))
theorem kept_tn (g : Tn F u u') (h : Kept w u) (hn : ∀ b, F b → w.heap.size ≤ b) : Kept w u' := kept_of (g.1.trans (kept_os h)) (g.2.1.trans (kept_output h)) (Nat.le_trans h.2 g.2.2.1) (fun i hi => (g.2.2.2 i (Nat.lt_of_lt_of_le hi h.2) (fun f => by have := hn i f; omega)).trans (kept_block h hi))
end
theorem own_at {α : Type} {enc : α → List Value} {c T B : Nat} {w : World} {v : Value} {xs : List α} (h : Og enc c T w B v xs) {b : Nat} (hb : v.ownBlock = some b) : ∃ cs, At w b cs T := by
  rcases h.2 with ⟨rfl, _⟩ | ⟨g, cap, cur, rfl, _, hg, _⟩
  · cases hb
  · injection hb with hb
    subst hb
    exact ⟨cur, hg⟩
theorem own_ne {α : Type} {enc : α → List Value} {c T U B X : Nat} {w : World} {v : Value} {xs : List α} {cs : Array Value} (h : Og enc c T w B v xs) (hX : At w X cs U) (hTU : T ≠ U) : ∀ b, v.ownBlock = some b → b ≠ X := fun b hb => by
  obtain ⟨ds, hd⟩ := own_at h hb
  exact at_ne hd hX hTU
end Go.Proofs.YtioeidhblbfgmaaGreat


namespace Go.Proofs.YtioeidhblbfgmaaGreat
open Go.ChangeShapes Go.WideShapes Go.ChangeAt Go.RowKit
set_option linter.unusedVariables false
set_option linter.unusedSimpArgs false
set_option maxRecDepth 100000

def encN (x : Nw) : List Value := [.int .u8 x.node, .int .u8 x.st, .int .u32 x.inc]
def encK (x : ByteArray) : List Value := [.string x]
def encR (r : R) : List Value := [.string r.key, .int .u64 r.s.p, .int .u32 r.s.l, .int .u8 r.s.n, .int .u8 r.kind, .int .u32 r.flags, .int .u64 r.exp, .string r.body]
def encS (x : Sn) : List Value := [.string x.key, .int .u64 x.s.p, .int .u32 x.s.l, .int .u8 x.s.n, .int .u8 x.kind]
def encG (x : Int) : List Value := [.int .u64 x]
theorem encN_ok : Enc encN 3 := ⟨by decide, fun _ => rfl, fun x v hv => by
  simp only [encN, List.mem_cons, List.not_mem_nil, or_false] at hv
  rcases hv with rfl | rfl | rfl <;> rfl⟩
theorem encK_ok : Enc encK 1 := ⟨by decide, fun _ => rfl, fun x v hv => by
  simp only [encK, List.mem_cons, List.not_mem_nil, or_false] at hv
  subst hv; rfl⟩
theorem encR_ok : Enc encR 8 := ⟨by decide, fun _ => rfl, fun x v hv => by
  simp only [encR, List.mem_cons, List.not_mem_nil, or_false] at hv
  rcases hv with rfl | rfl | rfl | rfl | rfl | rfl | rfl | rfl <;> rfl⟩
theorem encS_ok : Enc encS 5 := ⟨by decide, fun _ => rfl, fun x v hv => by
  simp only [encS, List.mem_cons, List.not_mem_nil, or_false] at hv
  rcases hv with rfl | rfl | rfl | rfl | rfl <;> rfl⟩
theorem encG_ok : Enc encG 1 := ⟨by decide, fun _ => rfl, fun x v hv => by
  simp only [encG, List.mem_cons, List.not_mem_nil, or_false] at hv
  subst hv; rfl⟩
def zeroNw : Nw := ⟨0, 0, 0⟩
def zeroSn : Sn := ⟨⟨#[]⟩, zero, 0⟩
theorem infoN : (Tryz.prog.info? 79).map (fun i => (i.zero, i.size, i.bytes)) = some (some (.agg (encN zeroNw).toArray), 3, 12) := by kernel_rfl
theorem infoK : (Tryz.prog.info? 9).map (fun i => (i.zero, i.size, i.bytes)) = some (some (.string ⟨#[]⟩), 1, 16) := by kernel_rfl
theorem infoR : (Tryz.prog.info? 57).map (fun i => (i.zero, i.size, i.bytes)) = some (some (.agg (encR zeroR).toArray), 8, 64) := by kernel_rfl
theorem infoS : (Tryz.prog.info? 59).map (fun i => (i.zero, i.size, i.bytes)) = some (some (.agg (encS zeroSn).toArray), 5, 40) := by kernel_rfl
theorem infoG : (Tryz.prog.info? 53).map (fun i => (i.zero, i.size, i.bytes)) = some (some (.int .u64 0), 1, 8) := by kernel_rfl
theorem tyN : TyG Tryz.prog 23 79 3 12 := by
  obtain ⟨i0, hi, hz0, hz1, hz2⟩ := info_parts infoN
  exact ⟨Tryz.underlying23, i0, _, hi, hz0, hz1, hz2, rfl⟩
theorem tyK : TyG Tryz.prog 24 9 1 16 := by
  obtain ⟨i0, hi, hz0, hz1, hz2⟩ := info_parts infoK
  exact ⟨Tryz.underlying24, i0, _, hi, hz0, hz1, hz2, rfl⟩
theorem tyR : TyG Tryz.prog 25 57 8 64 := by
  obtain ⟨i0, hi, hz0, hz1, hz2⟩ := info_parts infoR
  exact ⟨Tryz.underlying25, i0, _, hi, hz0, hz1, hz2, rfl⟩
theorem tyS : TyG Tryz.prog 26 59 5 40 := by
  obtain ⟨i0, hi, hz0, hz1, hz2⟩ := info_parts infoS
  exact ⟨Tryz.underlying26, i0, _, hi, hz0, hz1, hz2, rfl⟩
theorem tyG : TyG Tryz.prog 27 53 1 8 := by
  obtain ⟨i0, hi, hz0, hz1, hz2⟩ := info_parts infoG
  exact ⟨Tryz.underlying27, i0, _, hi, hz0, hz1, hz2, rfl⟩
theorem rg_pos {α : Type} {enc : α → List Value} {c : Nat} {w : World} {v : Value} {xs : List α} (h : Rg enc c w v xs) (hp : 0 < xs.length) : ∃ g o cap, v = .slice (some ⟨g, o, none⟩) xs.length cap := by
  obtain ⟨a, cap, rfl, _, _, _, h⟩ := h
  obtain ⟨g, o, rfl, _⟩ := h hp
  exact ⟨g, o, cap, rfl⟩
theorem rg_all {α : Type} {enc : α → List Value} {c : Nat} {w : World} {g o n cap : Nat} {xs : List α} (h : Rg enc c w (.slice (some ⟨g, o, none⟩) n cap) xs) {i : Nat} {x : α} (hx : xs[i]? = some x) : ∀ j u, (enc x)[j]? = some u → w.cell? ⟨g, o + i * c + j, none⟩ = some u := by
  obtain ⟨a, cc, e, _, _, _, h⟩ := h
  injection e with e1 e2 e3
  have hi := (List.getElem?_eq_some_iff.1 hx).1
  obtain ⟨g', o', e4, hc⟩ := h (by omega)
  rw [← e1] at e4
  injection e4 with e4
  injection e4 with e4 e5
  subst e4 e5
  exact fun j u hu => hc i x j u hx hu
section
variable {w : World} {g o n cap i : Nat}
theorem rg_N {xs : List Nw} {x : Nw} (h : Rg encN 3 w (.slice (some ⟨g, o, none⟩) n cap) xs) (hx : xs[i]? = some x) : w.cell? ⟨g, o + i * 3, none⟩ = some (.int .u8 x.node) ∧ w.cell? ⟨g, o + i * 3 + 1, none⟩ = some (.int .u8 x.st) ∧ w.cell? ⟨g, o + i * 3 + 2, none⟩ = some (.int .u32 x.inc) :=
  ⟨rg_all h hx 0 _ rfl, rg_all h hx 1 _ rfl, rg_all h hx 2 _ rfl⟩
theorem rg_K {xs : List ByteArray} {x : ByteArray} (h : Rg encK 1 w (.slice (some ⟨g, o, none⟩) n cap) xs) (hx : xs[i]? = some x) : w.cell? ⟨g, o + i, none⟩ = some (.string x) := by
  have h9 := rg_all h hx 0 _ rfl
  rwa [Nat.mul_one, Nat.add_zero] at h9
theorem rg_G {xs : List Int} {x : Int} (h : Rg encG 1 w (.slice (some ⟨g, o, none⟩) n cap) xs) (hx : xs[i]? = some x) : w.cell? ⟨g, o + i, none⟩ = some (.int .u64 x) := by
  have h9 := rg_all h hx 0 _ rfl
  rwa [Nat.mul_one, Nat.add_zero] at h9
theorem rg_S {xs : List Sn} {x : Sn} (h : Rg encS 5 w (.slice (some ⟨g, o, none⟩) n cap) xs) (hx : xs[i]? = some x) : w.cell? ⟨g, o + i * 5, none⟩ = some (.string x.key) ∧ w.cell? ⟨g, o + i * 5 + 1, none⟩ = some (.int .u64 x.s.p) ∧ w.cell? ⟨g, o + i * 5 + 2, none⟩ = some (.int .u32 x.s.l) ∧ w.cell? ⟨g, o + i * 5 + 3, none⟩ = some (.int .u8 x.s.n) ∧ w.cell? ⟨g, o + i * 5 + 4, none⟩ = some (.int .u8 x.kind) :=
  ⟨rg_all h hx 0 _ rfl, rg_all h hx 1 _ rfl, rg_all h hx 2 _ rfl, rg_all h hx 3 _ rfl, rg_all h hx 4 _ rfl⟩
theorem rg_R {xs : List R} {x : R} (h : Rg encR 8 w (.slice (some ⟨g, o, none⟩) n cap) xs) (hx : xs[i]? = some x) : w.cell? ⟨g, o + i * 8, none⟩ = some (.string x.key) ∧ w.cell? ⟨g, o + i * 8 + 1, none⟩ = some (.int .u64 x.s.p) ∧ w.cell? ⟨g, o + i * 8 + 2, none⟩ = some (.int .u32 x.s.l) ∧ w.cell? ⟨g, o + i * 8 + 3, none⟩ = some (.int .u8 x.s.n) ∧ w.cell? ⟨g, o + i * 8 + 4, none⟩ = some (.int .u8 x.kind) ∧ w.cell? ⟨g, o + i * 8 + 5, none⟩ = some (.int .u32 x.flags) ∧ w.cell? ⟨g, o + i * 8 + 6, none⟩ = some (.int .u64 x.exp) ∧ w.cell? ⟨g, o + i * 8 + 7, none⟩ = some (.string x.body) :=
  ⟨rg_all h hx 0 _ rfl, rg_all h hx 1 _ rfl, rg_all h hx 2 _ rfl, rg_all h hx 3 _ rfl, rg_all h hx 4 _ rfl, rg_all h hx 5 _ rfl, rg_all h hx 6 _ rfl, rg_all h hx 7 _ rfl⟩
end
theorem wrap8 {n : Nat} (h : n ≤ 255) : IntKind.u8.wrap (n : Int) = (n : Int) := by rw [IntKind.wrap_u8]; omega
theorem wrap32 {n : Nat} (h : n ≤ 4294967295) : IntKind.u32.wrap (n : Int) = (n : Int) := by rw [IntKind.wrap_u32]; omega
theorem wrap64 {x : Int} (h : 0 ≤ x ∧ x < 18446744073709551616) : IntKind.u64.wrap x = x := by rw [IntKind.wrap_u64]; omega
theorem num_le {s : ByteArray} {lo hi : Nat} {q : Int × Nat} {n : Nat} {q' : Int × Nat} (h : numM s lo hi q = (n, q')) : n ≤ hi := by have := numM_val s lo hi q; rw [h] at this; exact this
end Go.Proofs.YtioeidhblbfgmaaGreat


namespace Go.Proofs.YtioeidhblbfgmaaGreat
open Go.ChangeShapes Go.WideShapes Go.ChangeAt Go.RowKit
set_option linter.unusedVariables false
set_option linter.unusedSimpArgs false
set_option maxRecDepth 100000

theorem cells12 {w : World} {X T : Nat} {a0 a1 a2 a3 a4 a5 a6 a7 a8 a9 aa ab : Value} (h : At w X #[a0, a1, a2, a3, a4, a5, a6, a7, a8, a9, aa, ab] T) : (w.cell? ⟨X, 0, none⟩ = some a0 ∧ w.cell? ⟨X, 1, none⟩ = some a1 ∧ w.cell? ⟨X, 2, none⟩ = some a2 ∧ w.cell? ⟨X, 3, none⟩ = some a3 ∧ w.cell? ⟨X, 4, none⟩ = some a4 ∧ w.cell? ⟨X, 5, none⟩ = some a5 ∧ w.cell? ⟨X, 6, none⟩ = some a6 ∧ w.cell? ⟨X, 7, none⟩ = some a7 ∧ w.cell? ⟨X, 8, none⟩ = some a8 ∧ w.cell? ⟨X, 9, none⟩ = some a9 ∧ w.cell? ⟨X, 10, none⟩ = some aa ∧ w.cell? ⟨X, 11, none⟩ = some ab) ∧ ∀ j, w.frozen? ⟨X, j, none⟩ = false :=
  ⟨⟨at_cell h 0, at_cell h 1, at_cell h 2, at_cell h 3, at_cell h 4, at_cell h 5, at_cell h 6, at_cell h 7, at_cell h 8, at_cell h 9, at_cell h 10, at_cell h 11⟩, at_frozen h⟩
theorem at_cells4 {w : World} {X T : Nat} {a0 a1 a2 a3 : Value} (h : At w X #[a0, a1, a2, a3] T) : w.cell? ⟨X, 0, none⟩ = some a0 ∧ w.cell? ⟨X, 1, none⟩ = some a1 ∧ w.cell? ⟨X, 2, none⟩ = some a2 ∧ w.cell? ⟨X, 3, none⟩ = some a3 ∧ ∀ j, w.frozen? ⟨X, j, none⟩ = false := ⟨at_cell h 0, at_cell h 1, at_cell h 2, at_cell h 3, at_frozen h⟩
theorem zeroMv (w : World) : (zeroValue 29).run Tryz.prog w = .ok (.agg #[.int .u8 0, .int .u8 0, .int .u8 0, .int .u32 0, .int .u8 0, .int .u8 0, .bool false, .slice none 0 0, .slice none 0 0, .slice none 0 0, .slice none 0 0, .slice none 0 0]) w := by kernel_rfl
def msgV (m : Ms) (vn vk vr vs vd : Value) : Value := .agg #[.int .u8 m.kind, .int .u8 m.frm, .int .u8 m.dst, .int .u32 m.id, .int .u8 m.tgt, .int .u8 m.rng, .bool m.flag, vn, vk, vr, vs, vd]
structure MsR (w : World) (vn vk vr vs vd : Value) (m : Ms) : Prop where
  n : Rg encN 3 w vn m.news
  k : Rg encK 1 w vk m.keys
  r : Rg encR 8 w vr m.recs
  s : Rg encS 5 w vs m.seen
  d : Rg encG 1 w vd m.digs
theorem msr_kept {w w' : World} {vn vk vr vs vd : Value} {m : Ms} (h : MsR w vn vk vr vs vd m) (k : Kept w w') : MsR w' vn vk vr vs vd m := ⟨rg_kept encN_ok h.n k, rg_kept encK_ok h.k k, rg_kept encR_ok h.r k, rg_kept encS_ok h.s k, rg_kept encG_ok h.d k⟩
theorem msr_zero (w : World) : MsR w (.slice none 0 0) (.slice none 0 0) (.slice none 0 0) (.slice none 0 0) (.slice none 0 0) zeroM := ⟨rg_nil _ _ _, rg_nil _ _ _, rg_nil _ _ _, rg_nil _ _ _, rg_nil _ _ _⟩
def mC (m : Ms) (vn vk vr vs vd : Value) : Array Value := #[.int .u8 m.kind, .int .u8 m.frm, .int .u8 m.dst, .int .u32 m.id, .int .u8 m.tgt, .int .u8 m.rng, .bool m.flag, vn, vk, vr, vs, vd]
theorem msr_is {w : World} {vn vk vr vs vd : Value} {m : Ms} (h : MsR w vn vk vr vs vd m) : ∃ a1 n1 c1 a2 n2 c2 a3 n3 c3 a4 n4 c4 a5 n5 c5, vn = .slice a1 n1 c1 ∧ vk = .slice a2 n2 c2 ∧ vr = .slice a3 n3 c3 ∧ vs = .slice a4 n4 c4 ∧ vd = .slice a5 n5 c5 := by
  obtain ⟨a1, c1, e1, -, -⟩ := rg_is h.n
  obtain ⟨a2, c2, e2, -, -⟩ := rg_is h.k
  obtain ⟨a3, c3, e3, -, -⟩ := rg_is h.r
  obtain ⟨a4, c4, e4, -, -⟩ := rg_is h.s
  obtain ⟨a5, c5, e5, -, -⟩ := rg_is h.d
  exact ⟨a1, _, c1, a2, _, c2, a3, _, c3, a4, _, c4, a5, _, c5, e1, e2, e3, e4, e5⟩
end Go.Proofs.YtioeidhblbfgmaaGreat


namespace Go.Proofs.YtioeidhblbfgmaaGreat
open Go.ChangeShapes Go.WideShapes Go.ChangeAt Go.RowKit
set_option linter.unusedVariables false
set_option linter.unusedSimpArgs false
set_option maxRecDepth 100000

theorem kept_drewN {W w : World} (h : Kept W w) (n : Nat) : Kept W (w.drewN n) := h
theorem eq_news (x : Nw) (w : World) : (Op.equalIn 10000 79 (.agg #[.int .u8 x.node, .int .u8 x.st, .int .u32 x.inc]) (.agg #[.int .u8 x.node, .int .u8 x.st, .int .u32 x.inc])).run Tryz.prog w = .ok true w := by
  go_simp
set_option maxHeartbeats 3200000 in
theorem sameNews_any (l : List Nw) (hn : l.length ≤ 100000) (va vb : Value) (w : World) (ha : Rg encN 3 w va l) (hb : Rg encN 3 w vb l) : Calls Tryz.prog 32 #[va, vb] w fun e w' => e = .returned (.bool true) ∧ Kept w w' := by
  have HA := hid ha
  have HB := hid hb
  obtain ⟨a, ca, rfl, -, -, -, -⟩ := ha
  obtain ⟨b, cb, rfl, -, -, -, -⟩ := hb
  have HG : Hid (∀ k, k < l.length → ∃ y, l[k]? = some y) := hid (fun k hk => ⟨l[k], List.getElem?_eq_getElem hk⟩)
  have HP : Hid (0 < l.length → (∃ g o, a = some ⟨g, o, none⟩) ∧ ∃ g o, b = some ⟨g, o, none⟩) := hid (fun hp => by
    obtain ⟨g, o, c, e⟩ := rg_pos HA.out hp
    obtain ⟨g', o', c', e'⟩ := rg_pos HB.out hp
    injection e with e1
    injection e' with e2
    exact ⟨⟨g, o, e1⟩, ⟨g', o', e2⟩⟩)
  generalize hm : l.length = m at *
  have hne : ((m : Int) != (m : Int)) = false := by simp
  clear hm
  go_enter Tryz.func32, Tryz.ntmps32
  go_wp2_with fail
  go_loopw [13] (fun iv wr => ∃ i : Nat, i ≤ m ∧ iv = .int .i64 (i : Int) ∧ Hid (Kept w wr)) (fun iv _ => m - (intOf iv).toNat)
  case atStart => exact ⟨0, Nat.zero_le _, rfl, hid (kept_refl _)⟩
  case round =>
    obtain ⟨i, hi, rfl, HK⟩ := hrel
    by_cases hlt : i < m
    · obtain ⟨y, hy⟩ := HG.out i hlt
      obtain ⟨⟨g1, o1, rfl⟩, ⟨g2, o2, rfl⟩⟩ := HP.out (by omega)
      obtain ⟨p0, p1, p2⟩ := rg_N (rg_kept encN_ok HA.out HK.out) hy
      obtain ⟨q0, q1, q2⟩ := rg_N (rg_kept encN_ok HB.out HK.out) hy
      have heq := eq_news y
      clear hy
      go_wp2_with fail
      go_quiet (fail)
      go_wp2_with fail
      go_roundw
      case rel => exact ⟨i + 1, by omega, by go_num, hid (kept_drewN HK.out _)⟩
      case measure => simp [intOf]; omega
    · have he : i = m := by omega
      subst he
      go_wp2_with fail
      go_ret
      exact ⟨rfl, HK.out⟩
theorem eq_recs (x : R) (w : World) : (Op.equalIn 10000 57 (.agg #[.string x.key, .int .u64 x.s.p, .int .u32 x.s.l, .int .u8 x.s.n, .int .u8 x.kind, .int .u32 x.flags, .int .u64 x.exp, .string x.body]) (.agg #[.string x.key, .int .u64 x.s.p, .int .u32 x.s.l, .int .u8 x.s.n, .int .u8 x.kind, .int .u32 x.flags, .int .u64 x.exp, .string x.body])).run Tryz.prog w = .ok true w := by
  go_simp
set_option maxHeartbeats 3200000 in
theorem sameRecs_any (l : List R) (hn : l.length ≤ 100000) (va vb : Value) (w : World) (ha : Rg encR 8 w va l) (hb : Rg encR 8 w vb l) : Calls Tryz.prog 33 #[va, vb] w fun e w' => e = .returned (.bool true) ∧ Kept w w' := by
  have HA := hid ha
  have HB := hid hb
  obtain ⟨a, ca, rfl, -, -, -, -⟩ := ha
  obtain ⟨b, cb, rfl, -, -, -, -⟩ := hb
  have HG : Hid (∀ k, k < l.length → ∃ y, l[k]? = some y) := hid (fun k hk => ⟨l[k], List.getElem?_eq_getElem hk⟩)
  have HP : Hid (0 < l.length → (∃ g o, a = some ⟨g, o, none⟩) ∧ ∃ g o, b = some ⟨g, o, none⟩) := hid (fun hp => by
    obtain ⟨g, o, c, e⟩ := rg_pos HA.out hp
    obtain ⟨g', o', c', e'⟩ := rg_pos HB.out hp
    injection e with e1
    injection e' with e2
    exact ⟨⟨g, o, e1⟩, ⟨g', o', e2⟩⟩)
  generalize hm : l.length = m at *
  have hne : ((m : Int) != (m : Int)) = false := by simp
  clear hm
  go_enter Tryz.func33, Tryz.ntmps33
  go_wp2_with fail
  go_loopw [13] (fun iv wr => ∃ i : Nat, i ≤ m ∧ iv = .int .i64 (i : Int) ∧ Hid (Kept w wr)) (fun iv _ => m - (intOf iv).toNat)
  case atStart => exact ⟨0, Nat.zero_le _, rfl, hid (kept_refl _)⟩
  case round =>
    obtain ⟨i, hi, rfl, HK⟩ := hrel
    by_cases hlt : i < m
    · obtain ⟨y, hy⟩ := HG.out i hlt
      obtain ⟨⟨g1, o1, rfl⟩, ⟨g2, o2, rfl⟩⟩ := HP.out (by omega)
      obtain ⟨p0, p1, p2, p3, p4, p5, p6, p7⟩ := rg_R (rg_kept encR_ok HA.out HK.out) hy
      obtain ⟨q0, q1, q2, q3, q4, q5, q6, q7⟩ := rg_R (rg_kept encR_ok HB.out HK.out) hy
      have heq := eq_recs y
      clear hy
      go_wp2_with fail
      go_quiet (fail)
      go_wp2_with fail
      go_roundw
      case rel => exact ⟨i + 1, by omega, by go_num, hid (kept_drewN HK.out _)⟩
      case measure => simp [intOf]; omega
    · have he : i = m := by omega
      subst he
      go_wp2_with fail
      go_ret
      exact ⟨rfl, HK.out⟩
theorem eq_seen (x : Sn) (w : World) : (Op.equalIn 10000 59 (.agg #[.string x.key, .int .u64 x.s.p, .int .u32 x.s.l, .int .u8 x.s.n, .int .u8 x.kind]) (.agg #[.string x.key, .int .u64 x.s.p, .int .u32 x.s.l, .int .u8 x.s.n, .int .u8 x.kind])).run Tryz.prog w = .ok true w := by
  go_simp
set_option maxHeartbeats 3200000 in
theorem sameSeen_any (l : List Sn) (hn : l.length ≤ 100000) (va vb : Value) (w : World) (ha : Rg encS 5 w va l) (hb : Rg encS 5 w vb l) : Calls Tryz.prog 34 #[va, vb] w fun e w' => e = .returned (.bool true) ∧ Kept w w' := by
  have HA := hid ha
  have HB := hid hb
  obtain ⟨a, ca, rfl, -, -, -, -⟩ := ha
  obtain ⟨b, cb, rfl, -, -, -, -⟩ := hb
  have HG : Hid (∀ k, k < l.length → ∃ y, l[k]? = some y) := hid (fun k hk => ⟨l[k], List.getElem?_eq_getElem hk⟩)
  have HP : Hid (0 < l.length → (∃ g o, a = some ⟨g, o, none⟩) ∧ ∃ g o, b = some ⟨g, o, none⟩) := hid (fun hp => by
    obtain ⟨g, o, c, e⟩ := rg_pos HA.out hp
    obtain ⟨g', o', c', e'⟩ := rg_pos HB.out hp
    injection e with e1
    injection e' with e2
    exact ⟨⟨g, o, e1⟩, ⟨g', o', e2⟩⟩)
  generalize hm : l.length = m at *
  have hne : ((m : Int) != (m : Int)) = false := by simp
  clear hm
  go_enter Tryz.func34, Tryz.ntmps34
  go_wp2_with fail
  go_loopw [13] (fun iv wr => ∃ i : Nat, i ≤ m ∧ iv = .int .i64 (i : Int) ∧ Hid (Kept w wr)) (fun iv _ => m - (intOf iv).toNat)
  case atStart => exact ⟨0, Nat.zero_le _, rfl, hid (kept_refl _)⟩
  case round =>
    obtain ⟨i, hi, rfl, HK⟩ := hrel
    by_cases hlt : i < m
    · obtain ⟨y, hy⟩ := HG.out i hlt
      obtain ⟨⟨g1, o1, rfl⟩, ⟨g2, o2, rfl⟩⟩ := HP.out (by omega)
      obtain ⟨p0, p1, p2, p3, p4⟩ := rg_S (rg_kept encS_ok HA.out HK.out) hy
      obtain ⟨q0, q1, q2, q3, q4⟩ := rg_S (rg_kept encS_ok HB.out HK.out) hy
      have heq := eq_seen y
      clear hy
      go_wp2_with fail
      go_quiet (fail)
      go_wp2_with fail
      go_roundw
      case rel => exact ⟨i + 1, by omega, by go_num, hid (kept_drewN HK.out _)⟩
      case measure => simp [intOf]; omega
    · have he : i = m := by omega
      subst he
      go_wp2_with fail
      go_ret
      exact ⟨rfl, HK.out⟩
structure Few (m : Ms) : Prop where
  n : m.news.length ≤ 100000
  k : m.keys.length ≤ 100000
  r : m.recs.length ≤ 100000
  s : m.seen.length ≤ 100000
  d : m.digs.length ≤ 100000
set_option maxHeartbeats 6400000 in
theorem same_any (m : Ms) (few : Few m) (an ak ar as' ad bn bk br bs bd : Value) (w : World) (ha : MsR w an ak ar as' ad m) (hb : MsR w bn bk br bs bd m) : Calls Tryz.prog 15 #[msgV m an ak ar as' ad, msgV m bn bk br bs bd] w fun e w' => e = .returned (.bool true) ∧ Kept w w' := by
  have HA := hid ha
  have HB := hid hb
  have HF := hid few
  obtain ⟨k, f, t, id, tg, rn, fl, ns, ks, rs, ss, ds⟩ := m
  unfold msgV
  simp only at HA HB HF ⊢
  obtain ⟨ka, kc, rfl, -, -⟩ := rg_is HA.out.k
  obtain ⟨kb, kd, rfl, -, -⟩ := rg_is HB.out.k
  obtain ⟨da, dc, rfl, -, -⟩ := rg_is HA.out.d
  obtain ⟨db, dd, rfl, -, -⟩ := rg_is HB.out.d
  obtain ⟨nk, hnk⟩ : ∃ n, ks.length = n := ⟨_, rfl⟩
  obtain ⟨nd, hnd⟩ : ∃ n, ds.length = n := ⟨_, rfl⟩
  have hk9 : nk ≤ 100000 := by rw [← hnk]; exact few.k
  have hd9 : nd ≤ 100000 := by rw [← hnd]; exact few.d
  have HGk : Hid (∀ i, i < nk → ∃ y, ks[i]? = some y) := hid (fun i hi => ⟨ks[i]'(by omega), List.getElem?_eq_getElem _⟩)
  have HGd : Hid (∀ i, i < nd → ∃ y, ds[i]? = some y) := hid (fun i hi => ⟨ds[i]'(by omega), List.getElem?_eq_getElem _⟩)
  have HPk : Hid (0 < nk → (∃ g o, ka = some ⟨g, o, none⟩) ∧ ∃ g o, kb = some ⟨g, o, none⟩) := hid (fun hp => by
    obtain ⟨g, o, c, e⟩ := rg_pos HA.out.k (by show 0 < ks.length; omega)
    obtain ⟨g', o', c', e'⟩ := rg_pos HB.out.k (by show 0 < ks.length; omega)
    injection e with e1
    injection e' with e2
    exact ⟨⟨g, o, e1⟩, ⟨g', o', e2⟩⟩)
  have HPd : Hid (0 < nd → (∃ g o, da = some ⟨g, o, none⟩) ∧ ∃ g o, db = some ⟨g, o, none⟩) := hid (fun hp => by
    obtain ⟨g, o, c, e⟩ := rg_pos HA.out.d (by show 0 < ds.length; omega)
    obtain ⟨g', o', c', e'⟩ := rg_pos HB.out.d (by show 0 < ds.length; omega)
    injection e with e1
    injection e' with e2
    exact ⟨⟨g, o, e1⟩, ⟨g', o', e2⟩⟩)
  simp only [hnk, hnd] at HA HB ⊢
  have k1 := kept_alloc (kept_refl w) (.cells #[.int .u8 k, .int .u8 f, .int .u8 t, .int .u32 id, .int .u8 tg, .int .u8 rn, .bool fl, an, .slice ka nk kc, ar, as', .slice da nd dc] 29)
  have a1 := at_new w #[.int .u8 k, .int .u8 f, .int .u8 t, .int .u32 id, .int .u8 tg, .int .u8 rn, .bool fl, an, .slice ka nk kc, ar, as', .slice da nd dc] 29
  obtain ⟨w1, hw1⟩ : ∃ u, w.alloc (.cells #[.int .u8 k, .int .u8 f, .int .u8 t, .int .u32 id, .int .u8 tg, .int .u8 rn, .bool fl, an, .slice ka nk kc, ar, as', .slice da nd dc] 29) = u := ⟨_, rfl⟩
  obtain ⟨X, hX⟩ : ∃ u, w.heap.size = u := ⟨_, rfl⟩
  rw [hw1] at k1 a1
  rw [hX] at a1
  have k2 := kept_alloc (kept_refl w1) (.cells #[.int .u8 k, .int .u8 f, .int .u8 t, .int .u32 id, .int .u8 tg, .int .u8 rn, .bool fl, bn, .slice kb nk kd, br, bs, .slice db nd dd] 29)
  have a2 := at_new w1 #[.int .u8 k, .int .u8 f, .int .u8 t, .int .u32 id, .int .u8 tg, .int .u8 rn, .bool fl, bn, .slice kb nk kd, br, bs, .slice db nd dd] 29
  obtain ⟨w2, hw2⟩ : ∃ u, w1.alloc (.cells #[.int .u8 k, .int .u8 f, .int .u8 t, .int .u32 id, .int .u8 tg, .int .u8 rn, .bool fl, bn, .slice kb nk kd, br, bs, .slice db nd dd] 29) = u := ⟨_, rfl⟩
  obtain ⟨Y, hY⟩ : ∃ u, w1.heap.size = u := ⟨_, rfl⟩
  rw [hw2] at k2 a2
  rw [hY] at a2
  have HX := hid (at_kept a1 k2)
  have HY := hid a2
  have HK := hid (kept_trans k1 k2)
  obtain ⟨⟨c0, c1, c2, c3, c4, c5, c6, c7, c8, c9, ca, cb⟩, -⟩ := cells12 HX.out
  obtain ⟨⟨d0, d1, d2, d3, d4, d5, d6, d7, d8, d9, dxa, dxb⟩, -⟩ := cells12 HY.out
  have z1 : ((nk : Int) != (nk : Int)) = false := by simp
  have z2 : ((nd : Int) != (nd : Int)) = false := by simp
  clear a1 a2 k1 k2 ha hb few hnk hnd
  go_enter Tryz.func15, Tryz.ntmps15
  go_wp2_with fail
  clear hw1 hw2 hX hY c0 c1 c2 c3 c4 c5 c6 c7 c8 c9 ca cb d0 d1 d2 d3 d4 d5 d6 d7 d8 d9 dxa dxb
  go_loopw [73] (fun iv wr => ∃ i : Nat, i ≤ nk ∧ iv = .int .i64 (i : Int) ∧ Hid (Kept w2 wr)) (fun iv _ => nk - (intOf iv).toNat)
  case atStart => exact ⟨0, Nat.zero_le _, rfl, hid (kept_refl _)⟩
  case round =>
    obtain ⟨i, hi, rfl, HW⟩ := hrel
    obtain ⟨⟨c0, c1, c2, c3, c4, c5, c6, c7, c8, c9, ca, cb⟩, -⟩ := cells12 (at_kept HX.out HW.out)
    obtain ⟨⟨d0, d1, d2, d3, d4, d5, d6, d7, d8, d9, dxa, dxb⟩, -⟩ := cells12 (at_kept HY.out HW.out)
    by_cases hlt : i < nk
    · have hltz : (i : Int) < (nk : Int) := by omega
      obtain ⟨y, hy⟩ := HGk.out i hlt
      obtain ⟨⟨g1, o1, rfl⟩, ⟨g2, o2, rfl⟩⟩ := HPk.out (by omega)
      have p0 := rg_K (rg_kept encK_ok HA.out.k (kept_trans HK.out HW.out)) hy
      have q0 := rg_K (rg_kept encK_ok HB.out.k (kept_trans HK.out HW.out)) hy
      clear hy c0 c1 c2 c3 c4 c5 c6 c7 c9 ca cb d0 d1 d2 d3 d4 d5 d6 d7 d9 dxa dxb
      go_wp2_with fail
      go_quiet (fail)
      go_wp2_with fail
      go_roundw
      case rel => exact ⟨i + 1, by omega, by go_num, hid (kept_drewN HW.out _)⟩
      case measure => simp [intOf]; omega
    · have hltz : ¬ (i : Int) < (nk : Int) := by omega
      have HK1 := hid (kept_trans HK.out HW.out)
      have HX1 := hid (at_kept HX.out HW.out)
      have HY1 := hid (at_kept HY.out HW.out)
      clear HX HY HK HW
      go_wp2_with fail
      clear c0 c1 c2 c3 c4 c5 c6 c7 c8 c9 ca cb d0 d1 d2 d3 d4 d5 d6 d7 d8 d9 dxa dxb
      go_loopw [91] (fun iv wq => ∃ i : Nat, i ≤ nd ∧ iv = .int .i64 (i : Int) ∧ Hid (Kept wr wq)) (fun iv _ => nd - (intOf iv).toNat)
      case atStart => exact ⟨0, Nat.zero_le _, rfl, hid (kept_refl _)⟩
      case round =>
        obtain ⟨j, hj, rfl, HW⟩ := hrel
        obtain ⟨⟨c0, c1, c2, c3, c4, c5, c6, c7, c8, c9, ca, cb⟩, -⟩ := cells12 (at_kept HX1.out HW.out)
        obtain ⟨⟨d0, d1, d2, d3, d4, d5, d6, d7, d8, d9, dxa, dxb⟩, -⟩ := cells12 (at_kept HY1.out HW.out)
        by_cases hlt2 : j < nd
        · have hltz2 : (j : Int) < (nd : Int) := by omega
          obtain ⟨y, hy⟩ := HGd.out j hlt2
          obtain ⟨⟨g1, o1, rfl⟩, ⟨g2, o2, rfl⟩⟩ := HPd.out (by omega)
          have p0 := rg_G (rg_kept encG_ok HA.out.d (kept_trans HK1.out HW.out)) hy
          have q0 := rg_G (rg_kept encG_ok HB.out.d (kept_trans HK1.out HW.out)) hy
          have z3 : (y != y) = false := by simp
          clear hy c0 c1 c2 c3 c4 c5 c6 c7 c8 c9 ca d0 d1 d2 d3 d4 d5 d6 d7 d8 d9 dxa
          go_wp2_with fail
          go_quiet (fail)
          go_wp2_with fail
          go_roundw
          case rel => exact ⟨j + 1, by omega, by go_num, hid (kept_drewN HW.out _)⟩
          case measure => simp [intOf]; omega
        · have hltz2 : ¬ (j : Int) < (nd : Int) := by omega
          have HK2 := hid (kept_trans HK1.out HW.out)
          have HX2 := hid (at_kept HX1.out HW.out)
          have HY2 := hid (at_kept HY1.out HW.out)
          clear HX1 HY1 HK1 HW
          go_wp2_with fail
          refine (sameNews_any ns HF.out.n _ _ _ (rg_kept encN_ok HA.out.n HK2.out) (rg_kept encN_ok HB.out.n HK2.out)).mono ?_
          rintro e w3 ⟨rfl, k3⟩
          have HK3 := hid (kept_trans HK2.out k3)
          obtain ⟨⟨c0, c1, c2, c3, c4, c5, c6, c7, c8, c9, ca, cb⟩, -⟩ := cells12 (at_kept HX2.out k3)
          obtain ⟨⟨d0, d1, d2, d3, d4, d5, d6, d7, d8, d9, dxa, dxb⟩, -⟩ := cells12 (at_kept HY2.out k3)
          have HX3 := hid (at_kept HX2.out k3)
          have HY3 := hid (at_kept HY2.out k3)
          clear k3 HX2 HY2 HK2
          go_wp2_with fail
          refine (sameRecs_any rs HF.out.r _ _ _ (rg_kept encR_ok HA.out.r HK3.out) (rg_kept encR_ok HB.out.r HK3.out)).mono ?_
          rintro e w4 ⟨rfl, k4⟩
          have HK4 := hid (kept_trans HK3.out k4)
          obtain ⟨⟨c0, c1, c2, c3, c4, c5, c6, c7, c8, c9, ca, cb⟩, -⟩ := cells12 (at_kept HX3.out k4)
          obtain ⟨⟨d0, d1, d2, d3, d4, d5, d6, d7, d8, d9, dxa, dxb⟩, -⟩ := cells12 (at_kept HY3.out k4)
          clear k4 HX3 HY3 HK3
          go_wp2_with fail
          refine (sameSeen_any ss HF.out.s _ _ _ (rg_kept encS_ok HA.out.s HK4.out) (rg_kept encS_ok HB.out.s HK4.out)).mono ?_
          rintro e w5 ⟨rfl, k5⟩
          have HK5 := hid (kept_trans HK4.out k5)
          clear k5 HK4
          go_wp2_with fail
          go_ret
          exact ⟨rfl, HK5.out⟩
end Go.Proofs.YtioeidhblbfgmaaGreat


namespace Go.Proofs.YtioeidhblbfgmaaGreat
open Go.ChangeShapes Go.WideShapes Go.ChangeAt Go.RowKit
set_option linter.unusedVariables false
set_option maxRecDepth 100000
set_option linter.unusedSimpArgs false

theorem ret_bool {a b : Bool} (h : a = b) : Ending.returned (.bool a) = .returned (.bool b) := by rw [h]
theorem ret_int {k : IntKind} {a b : Int} (h : a = b) : Ending.returned (.int k a) = .returned (.int k b) := by rw [h]
theorem bne_ne {a b : Int} (h : (a != b) = true) : a ≠ b := by simpa using h
theorem bne_eq {a b : Int} (h : (a != b) = false) : a = b := by simpa using h
theorem lt_first {a b : Stp} (h : a.p ≠ b.p) : decide (a.p < b.p) = lt a b := by
  rw [Bool.eq_iff_iff, lt_iff]; unfold Lt; simp; omega
theorem lt_second {a b : Stp} (h : a.p = b.p) (k : a.l ≠ b.l) : decide (a.l < b.l) = lt a b := by
  rw [Bool.eq_iff_iff, lt_iff]; unfold Lt; simp; omega
theorem lt_third {a b : Stp} (h : a.p = b.p) (k : a.l = b.l) : decide (a.n < b.n) = lt a b := by
  rw [Bool.eq_iff_iff, lt_iff]; unfold Lt; simp; omega
theorem eq_stamp (a b : Stp) (w : World) : (Op.equalIn 10000 55 (.agg #[.int .u64 a.p, .int .u32 a.l, .int .u8 a.n]) (.agg #[.int .u64 b.p, .int .u32 b.l, .int .u8 b.n])).run Tryz.prog w = .ok (same a b) w := by
  go_simp
  unfold same
  by_cases h1 : a.p = b.p <;> by_cases h2 : a.l = b.l <;> by_cases h3 : a.n = b.n <;> simp [h1, h2, h3]
end Go.Proofs.YtioeidhblbfgmaaGreat
