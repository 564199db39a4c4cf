/- Records, hints and sends as they lie in memory; what the landed hints must answer, as the laws' walks take it. -/
import Derived.Test.YtahgplfkgijecaaHintMath
import Derived.Test.YtahgplfkgijecaaRgRows
import Derived.Test.YtahgplfkgijecaaGObj
import Derived.Deep.DeepMust
import Derived.Deep.Upon
import Derived.Deep.RegionHeld3
namespace Go.Proofs.Ytahgplfkgijecaa
open Go.ChangeShapes Go.WideShapes Go.ChangeAt Go.RowKit
set_option linter.unusedVariables false
set_option linter.unusedSimpArgs false
set_option maxRecDepth 100000

def U8 (l : List Int) : Prop := ∀ n ∈ l, 0 ≤ n ∧ n < 256
def okU (x : Int) : Prop := 0 ≤ x ∧ x < 256
def encR (r : R) : List Value := [.string r.key, .int .u64 r.s.p, .int .u32 r.s.l, .int .u8 r.s.n, .int .u8 r.kind, .int .u32 r.flags, .int .u64 r.exp, .string r.body]
def encH (h : Ht) : List Value := [.string h.r.key, .int .u64 h.r.s.p, .int .u32 h.r.s.l, .int .u8 h.r.s.n, .int .u8 h.r.kind, .int .u32 h.r.flags, .int .u64 h.r.exp, .string h.r.body, .int .u64 (ackI h.has 64)]
def encD (d : Snd) : List Value := [.int .u8 d.to, .string d.r.key, .int .u64 d.r.s.p, .int .u32 d.r.s.l, .int .u8 d.r.s.n, .int .u8 d.r.kind, .int .u32 d.r.flags, .int .u64 d.r.exp, .string d.r.body]
theorem encR_ok : Enc encR 8 := ⟨by decide, fun _ => rfl, fun x v hv => by
  simp only [encR, List.mem_cons, List.not_mem_nil, or_false] at hv
  rcases hv with rfl | rfl | rfl | rfl | rfl | rfl | rfl | rfl <;> rfl⟩
theorem encH_ok : Enc encH 9 := ⟨by decide, fun _ => rfl, fun x v hv => by
  simp only [encH, List.mem_cons, List.not_mem_nil, or_false] at hv
  rcases hv with rfl | rfl | rfl | rfl | rfl | rfl | rfl | rfl | rfl <;> rfl⟩
theorem encD_ok : Enc encD 9 := ⟨by decide, fun _ => rfl, fun x v hv => by
  simp only [encD, List.mem_cons, List.not_mem_nil, or_false] at hv
  rcases hv with rfl | rfl | rfl | rfl | rfl | rfl | rfl | rfl | rfl <;> rfl⟩
def recV (r : R) : Value := .agg #[.string r.key, .int .u64 r.s.p, .int .u32 r.s.l, .int .u8 r.s.n, .int .u8 r.kind, .int .u32 r.flags, .int .u64 r.exp, .string r.body]
theorem rg_all {α : Type} {enc : α → List Value} {c : Nat} {w : World} {g o n cap : Nat} {xs : List α} (h : Rg enc c w (.slice (some ⟨g, o, none⟩) n cap) xs) {i : Nat} {x : α} (hx : xs[i]? = some x) : ∀ j u, (enc x)[j]? = some u → w.cell? ⟨g, o + i * c + j, none⟩ = some u := by
  obtain ⟨a, cc, e, _, _, _, h⟩ := h
  injection e with e1 e2 e3
  have hi := (List.getElem?_eq_some_iff.1 hx).1
  obtain ⟨g', o', e4, hc⟩ := h (by omega)
  rw [← e1] at e4
  injection e4 with e4
  injection e4 with e4 e5
  subst e4 e5
  exact fun j u hu => hc i x j u hx hu
theorem rg_H {w : World} {g o n cap : Nat} {xs : List Ht} (h : Rg encH 9 w (.slice (some ⟨g, o, none⟩) n cap) xs) {i : Nat} {x : Ht} (hx : xs[i]? = some x) : w.cell? ⟨g, o + i * 9, none⟩ = some (.string x.r.key) ∧ w.cell? ⟨g, o + i * 9 + 1, none⟩ = some (.int .u64 x.r.s.p) ∧ w.cell? ⟨g, o + i * 9 + 2, none⟩ = some (.int .u32 x.r.s.l) ∧ w.cell? ⟨g, o + i * 9 + 3, none⟩ = some (.int .u8 x.r.s.n) ∧ w.cell? ⟨g, o + i * 9 + 4, none⟩ = some (.int .u8 x.r.kind) ∧ w.cell? ⟨g, o + i * 9 + 5, none⟩ = some (.int .u32 x.r.flags) ∧ w.cell? ⟨g, o + i * 9 + 6, none⟩ = some (.int .u64 x.r.exp) ∧ w.cell? ⟨g, o + i * 9 + 7, none⟩ = some (.string x.r.body) ∧ w.cell? ⟨g, o + i * 9 + 8, none⟩ = some (.int .u64 (ackI x.has 64)) :=
  ⟨rg_all h hx 0 _ rfl, rg_all h hx 1 _ rfl, rg_all h hx 2 _ rfl, rg_all h hx 3 _ rfl, rg_all h hx 4 _ rfl, rg_all h hx 5 _ rfl, rg_all h hx 6 _ rfl, rg_all h hx 7 _ rfl, rg_all h hx 8 _ rfl⟩
theorem rg_D {w : World} {g o n cap : Nat} {xs : List Snd} (h : Rg encD 9 w (.slice (some ⟨g, o, none⟩) n cap) xs) {i : Nat} {x : Snd} (hx : xs[i]? = some x) : w.cell? ⟨g, o + i * 9, none⟩ = some (.int .u8 x.to) ∧ w.cell? ⟨g, o + i * 9 + 1, none⟩ = some (.string x.r.key) ∧ w.cell? ⟨g, o + i * 9 + 2, none⟩ = some (.int .u64 x.r.s.p) ∧ w.cell? ⟨g, o + i * 9 + 3, none⟩ = some (.int .u32 x.r.s.l) ∧ w.cell? ⟨g, o + i * 9 + 4, none⟩ = some (.int .u8 x.r.s.n) ∧ w.cell? ⟨g, o + i * 9 + 5, none⟩ = some (.int .u8 x.r.kind) ∧ w.cell? ⟨g, o + i * 9 + 6, none⟩ = some (.int .u32 x.r.flags) ∧ w.cell? ⟨g, o + i * 9 + 7, none⟩ = some (.int .u64 x.r.exp) ∧ w.cell? ⟨g, o + i * 9 + 8, none⟩ = some (.string x.r.body) :=
  ⟨rg_all h hx 0 _ rfl, rg_all h hx 1 _ rfl, rg_all h hx 2 _ rfl, rg_all h hx 3 _ rfl, rg_all h hx 4 _ rfl, rg_all h hx 5 _ rfl, rg_all h hx 6 _ rfl, rg_all h hx 7 _ rfl, rg_all h hx 8 _ rfl⟩
/- Hints with room for n. -/
structure Hs where
  n : Nat
  l : List Ht
/- What is small enough to be cloned. -/
def Sml (r : R) : Prop := r.key.size ≤ 1000 ∧ r.body.size ≤ 3000
def stV (s : Stp) : Value := .agg #[.int .u64 s.p, .int .u32 s.l, .int .u8 s.n]
/- A row apart from what is an object's own, if it has members. -/
def Far {α : Type} (F : Nat → Prop) (v : Value) (l : List α) : Prop := 0 < l.length → ∀ g, v.ownBlock = some g → ¬ F g
theorem far_old {T : Shape Hs} {W w : World} {X : Nat} {s : Hs} {F : Nat → Prop} {α : Type} {enc : α → List Value} {c : Nat} {v : Value} {xs : List α} (h : TT T W X s F w) (he : Enc enc c) (hr : Rg enc c W v xs) : Far F v xs := by
  intro hp g hg hf
  obtain ⟨a, cap, rfl, -, -, -, h4⟩ := hr
  obtain ⟨q, o, rfl, hc⟩ := h4 hp
  injection hg with hg
  subst hg
  have hl := he.len (xs[0]'hp)
  have h1 : xs[0]? = some (xs[0]'hp) := List.getElem?_eq_getElem hp
  have h2 : (enc (xs[0]'hp))[0]? = some ((enc (xs[0]'hp))[0]'(by have := he.pos; omega)) := List.getElem?_eq_getElem _
  have h3 := gcell_lt (hc 0 _ 0 _ h1 h2)
  have h4 := h.f q hf
  omega
structure HintsIs (T : Shape Hs) : Prop where
  obj : ObjIs T
  new_ok : ∀ (n : Nat) (w : World), 1 ≤ n → n ≤ 64 → Calls Try.prog 8 #[.int .i64 (n : Int)] w fun e w' => ∃ X F, e = .returned (.tuple #[.pointer (some ⟨X, 0, none⟩), .int .i64 0]) ∧ T w' X ⟨n, []⟩ F ∧ Kept w w' ∧ ∀ b, F b → w.heap.size ≤ b
  new_bad : ∀ (n : Int) (w : World), ¬ (1 ≤ n ∧ n ≤ 64) → Calls Try.prog 8 #[.int .i64 n] w fun e w' => e = .returned (.tuple #[.pointer none, .int .i64 1]) ∧ Kept w w'
  add : ∀ (X : Nat) (s : Hs) (F : Nat → Prop) (r : R) (w : World), T w X s F → Hg s.n s.l → r.ok → Sml r → Calls Try.prog 12 #[.pointer (some ⟨X, 0, none⟩), .agg #[.string r.key, .int .u64 r.s.p, .int .u32 r.s.l, .int .u8 r.s.n, .int .u8 r.kind, .int .u32 r.flags, .int .u64 r.exp, .string r.body]] w fun e w' => ∃ F', e = .returned (.int .i64 (addE s.n s.l r)) ∧ T w' X ⟨s.n, addL s.n s.l r⟩ F' ∧ Sd F w F' w'
  ack : ∀ (X : Nat) (s : Hs) (F : Nat → Prop) (key : ByteArray) (st : Stp) (node : Int) (w : World), T w X s F → Hg s.n s.l → key.size ≤ 1000 → st.ok → 0 ≤ node → node < 256 → Calls Try.prog 14 #[.pointer (some ⟨X, 0, none⟩), .string key, .agg #[.int .u64 st.p, .int .u32 st.l, .int .u8 st.n], .int .u8 node] w fun e w' => ∃ F', e = .returned (.bool (mayK s.l key st node)) ∧ T w' X ⟨s.n, ackL s.l key st node⟩ F' ∧ Sd F w F' w'
  missing : ∀ (X : Nat) (s : Hs) (F : Nat → Prop) (up : List Int) (v : Value) (w : World), T w X s F → Hg s.n s.l → U8 up → up.length ≤ 100 → Rg encU 1 w v up → Calls Try.prog 16 #[.pointer (some ⟨X, 0, none⟩), v] w fun e w' => ∃ r F', e = .returned r ∧ Og encD 9 66 w' 0 r (missL s.l up) ∧ (∀ g, r.ownBlock = some g → ¬ F' g) ∧ T w' X s F' ∧ Sd F w F' w'
  settle : ∀ (X : Nat) (s : Hs) (F : Nat → Prop) (up : List Int) (v : Value) (w : World), T w X s F → Hg s.n s.l → U8 up → up.length ≤ 100 → Rg encU 1 w v up → Far F v up → Calls Try.prog 19 #[.pointer (some ⟨X, 0, none⟩), v] w fun e w' => ∃ F', e = .returned (.int .i64 ((s.l.length - (setL s.l up).length : Nat) : Int)) ∧ T w' X ⟨s.n, setL s.l up⟩ F' ∧ Sd F w F' w'
  all : ∀ (X : Nat) (s : Hs) (F : Nat → Prop) (w : World), T w X s F → Hg s.n s.l → Calls Try.prog 21 #[.pointer (some ⟨X, 0, none⟩)] w fun e w' => ∃ r F', e = .returned r ∧ Og encH 9 61 w' 0 r s.l ∧ (∀ g, r.ownBlock = some g → ¬ F' g) ∧ (∀ g, r.ownBlock = some g → w.heap.size ≤ g) ∧ T w' X s F' ∧ Sd F w F' w'
  len : ∀ (X : Nat) (s : Hs) (F : Nat → Prop) (w : World), T w X s F → Hg s.n s.l → Calls Try.prog 22 #[.pointer (some ⟨X, 0, none⟩)] w fun e w' => e = .returned (.int .i64 (s.l.length : Int)) ∧ Kept w w'
  add_nil : ∀ (r : R) (w : World), r.ok → r.key.size ≤ 1000 → Calls Try.prog 12 #[.pointer none, .agg #[.string r.key, .int .u64 r.s.p, .int .u32 r.s.l, .int .u8 r.s.n, .int .u8 r.kind, .int .u32 r.flags, .int .u64 r.exp, .string r.body]] w fun e w' => e = .returned (.int .i64 1) ∧ Kept w w'
  ack_nil : ∀ (key : ByteArray) (st : Stp) (node : Int) (w : World), key.size ≤ 1000 → Calls Try.prog 14 #[.pointer none, .string key, .agg #[.int .u64 st.p, .int .u32 st.l, .int .u8 st.n], .int .u8 node] w fun e w' => e = .returned (.bool false) ∧ Kept w w'
  missing_nil : ∀ (up : List Int) (v : Value) (w : World), up.length ≤ 100 → Rg encU 1 w v up → Calls Try.prog 16 #[.pointer none, v] w fun e w' => ∃ a cap, e = .returned (.slice a 0 cap) ∧ Kept w w'
  settle_nil : ∀ (up : List Int) (v : Value) (w : World), up.length ≤ 100 → Rg encU 1 w v up → Calls Try.prog 19 #[.pointer none, v] w fun e w' => e = .returned (.int .i64 0) ∧ Kept w w'
  all_nil : ∀ (w : World), Calls Try.prog 21 #[.pointer none] w fun e w' => ∃ a cap, e = .returned (.slice a 0 cap) ∧ Kept w w'
  len_nil : ∀ (w : World), Calls Try.prog 22 #[.pointer none] w fun e w' => e = .returned (.int .i64 0) ∧ Kept w w'
section
variable {T : Shape Hs} {W w w' : World} {X : Nat} {s : Hs} {F F' : Nat → Prop}
theorem ht_new (hT : HintsIs T) (kw : Kept W w) {n : Nat} (h1 : 1 ≤ n) (h2 : n ≤ 64) : Calls Try.prog 8 #[.int .i64 (n : Int)] w fun e w' => ∃ X F, e = .returned (.tuple #[.pointer (some ⟨X, 0, none⟩), .int .i64 0]) ∧ TT T W X ⟨n, []⟩ F w' ∧ Kept w w' :=
  (hT.new_ok n w h1 h2).mono (by
    rintro e w' ⟨X, F, rfl, ht, kk, hf⟩
    exact ⟨X, F, rfl, ⟨ht, kept_trans kw kk, fun b hb => Nat.le_trans kw.2 (hf b hb)⟩, kk⟩)
theorem ht_add (hT : HintsIs T) (h : TT T W X s F w) (g : Hg s.n s.l) {r : R} (hr : r.ok) (hm : Sml r) : Calls Try.prog 12 #[.pointer (some ⟨X, 0, none⟩), .agg #[.string r.key, .int .u64 r.s.p, .int .u32 r.s.l, .int .u8 r.s.n, .int .u8 r.kind, .int .u32 r.flags, .int .u64 r.exp, .string r.body]] w fun e w' => ∃ F', e = .returned (.int .i64 (addE s.n s.l r)) ∧ TT T W X ⟨s.n, addL s.n s.l r⟩ F' w' ∧ Sd F w F' w' :=
  (hT.add X s F r w h.t g hr hm).mono (by
    rintro e w' ⟨F', rfl, ht, d⟩
    exact ⟨F', rfl, tt_sd h ht d, d⟩)
theorem ht_ack (hT : HintsIs T) (h : TT T W X s F w) (g : Hg s.n s.l) {key : ByteArray} {st : Stp} {node : Int} (hk : key.size ≤ 1000) (hs : st.ok) (h1 : 0 ≤ node) (h2 : node < 256) : Calls Try.prog 14 #[.pointer (some ⟨X, 0, none⟩), .string key, .agg #[.int .u64 st.p, .int .u32 st.l, .int .u8 st.n], .int .u8 node] w fun e w' => ∃ F', e = .returned (.bool (mayK s.l key st node)) ∧ TT T W X ⟨s.n, ackL s.l key st node⟩ F' w' ∧ Sd F w F' w' :=
  (hT.ack X s F key st node w h.t g hk hs h1 h2).mono (by
    rintro e w' ⟨F', rfl, ht, d⟩
    exact ⟨F', rfl, tt_sd h ht d, d⟩)
theorem ht_missing (hT : HintsIs T) (h : TT T W X s F w) (g : Hg s.n s.l) {up : List Int} {v : Value} (hu : U8 up) (hl : up.length ≤ 100) (hr : Rg encU 1 w v up) : Calls Try.prog 16 #[.pointer (some ⟨X, 0, none⟩), v] w fun e w' => ∃ r F', e = .returned r ∧ Og encD 9 66 w' 0 r (missL s.l up) ∧ (∀ g, r.ownBlock = some g → ¬ F' g) ∧ TT T W X s F' w' ∧ Sd F w F' w' :=
  (hT.missing X s F up v w h.t g hu hl hr).mono (by
    rintro e w' ⟨r, F', rfl, ho, hn, ht, d⟩
    exact ⟨r, F', rfl, ho, hn, tt_sd h ht d, d⟩)
theorem ht_settle (hT : HintsIs T) (h : TT T W X s F w) (g : Hg s.n s.l) {up : List Int} {v : Value} (hu : U8 up) (hl : up.length ≤ 100) (hr : Rg encU 1 w v up) (hn : Far F v up) : Calls Try.prog 19 #[.pointer (some ⟨X, 0, none⟩), v] w fun e w' => ∃ F', e = .returned (.int .i64 ((s.l.length - (setL s.l up).length : Nat) : Int)) ∧ TT T W X ⟨s.n, setL s.l up⟩ F' w' ∧ Sd F w F' w' :=
  (hT.settle X s F up v w h.t g hu hl hr hn).mono (by
    rintro e w' ⟨F', rfl, ht, d⟩
    exact ⟨F', rfl, tt_sd h ht d, d⟩)
theorem ht_all (hT : HintsIs T) (h : TT T W X s F w) (g : Hg s.n s.l) : Calls Try.prog 21 #[.pointer (some ⟨X, 0, none⟩)] w fun e w' => ∃ r F', e = .returned r ∧ Og encH 9 61 w' 0 r s.l ∧ (∀ g, r.ownBlock = some g → ¬ F' g) ∧ (∀ g, r.ownBlock = some g → w.heap.size ≤ g) ∧ TT T W X s F' w' ∧ Sd F w F' w' :=
  (hT.all X s F w h.t g).mono (by
    rintro e w' ⟨r, F', rfl, ho, hn, hb, ht, d⟩
    exact ⟨r, F', rfl, ho, hn, hb, tt_sd h ht d, d⟩)
theorem ht_len (hT : HintsIs T) (h : TT T W X s F w) (g : Hg s.n s.l) : Calls Try.prog 22 #[.pointer (some ⟨X, 0, none⟩)] w fun e w' => e = .returned (.int .i64 (s.l.length : Int)) ∧ TT T W X s F w' ∧ Kept w w' :=
  (hT.len X s F w h.t g).mono (by
    rintro e w' ⟨rfl, kk⟩
    exact ⟨rfl, tt_kept hT.obj h kk, kk⟩)
end
end Go.Proofs.Ytahgplfkgijecaa
