/- What the landed probe and doubts must answer, as the laws' walks take it; the contract of the reference's SameRound; the chapter's example. -/
import Derived.Test.YtgmcjnhijgnadaaPrRows
namespace Go.Proofs.Ytgmcjnhijgnadaa
open Go.ChangeShapes Go.WideShapes Go.ChangeAt Go.RowKit
set_option linter.unusedVariables false
set_option linter.unusedSimpArgs false
set_option maxRecDepth 100000

structure Nw where
  node : Int
  st : Int
  inc : Int
def encN (x : Nw) : List Value := [.int .u8 x.node, .int .u8 x.st, .int .u32 x.inc]
theorem encN_ok : Enc encN 3 := ⟨by decide, fun _ => rfl, fun x v hv => by
  simp only [encN, List.mem_cons, List.not_mem_nil, or_false] at hv
  rcases hv with rfl | rfl | rfl <;> rfl⟩
/- A round in memory. -/
structure Rw (w : World) (pv av fv : Value) (r : Rd) : Prop where
  p : Rg encU 1 w pv r.pings
  a : Rg encA 2 w av r.asks
  f : Rg encU 1 w fv r.failed
theorem rw_kept {w w' : World} {pv av fv : Value} {r : Rd} (h : Rw w pv av fv r) (k : Kept w w') : Rw w' pv av fv r := ⟨rg_kept encU_ok h.p k, rg_kept encA_ok h.a k, rg_kept encU_ok h.f k⟩
/- A round of one's own, apart from the probe. -/
structure Ro (w : World) (F : Nat → Prop) (pv av fv : Value) (r : Rd) : Prop where
  p : Og encU 1 5 w 0 pv r.pings
  a : Og encA 2 80 w 0 av r.asks
  f : Og encU 1 5 w 0 fv r.failed
  ap : ∀ g, pv.ownBlock = some g → ¬ F g
  aa : ∀ g, av.ownBlock = some g → ¬ F g
  af : ∀ g, fv.ownBlock = some g → ¬ F g
theorem ro_rw {w : World} {F : Nat → Prop} {pv av fv : Value} {r : Rd} (h : Ro w F pv av fv r) : Rw w pv av fv r := ⟨rg_own encU_ok h.p, rg_own encA_ok h.a, rg_own encU_ok h.f⟩
theorem ro_kept {w w' : World} {F : Nat → Prop} {pv av fv : Value} {r : Rd} (h : Ro w F pv av fv r) (k : Kept w w') : Ro w' F pv av fv r := ⟨og_stays h.p k, og_stays h.a k, og_stays h.f k, h.ap, h.aa, h.af⟩
theorem ro_sd {w w' : World} {F F' : Nat → Prop} {pv av fv : Value} {r : Rd} (h : Ro w F pv av fv r) (d : Sd F w F' w') : Ro w' F' pv av fv r := ⟨og_sd h.p h.ap d, og_sd h.a h.aa d, og_sd h.f h.af d, apart_sd h.p h.ap d, apart_sd h.a h.aa d, apart_sd h.f h.af d⟩
def TickC (T : Shape Pb) (X : Nat) (p : Pb) (r : Rd) (F : Nat → Prop) (w : World) (e : Ending) (w' : World) : Prop := ∃ pv av fv F', e = .returned (.agg #[pv, av, fv]) ∧ Ro w' F' pv av fv r ∧ T w' X p F' ∧ Sd F w F' w'
structure ProbeIs (T : Shape Pb) : Prop where
  obj : ObjIs T
  new_ok : ∀ (self : Int) (n : Nat) (w : World), 1 ≤ n → n ≤ 64 → 0 ≤ self → self < n → Calls Try.prog 8 #[.int .u8 self, .int .i64 (n : Int)] w fun e w' => ∃ X F, e = .returned (.tuple #[.pointer (some ⟨X, 0, none⟩), .int .i64 0]) ∧ T w' X (newP self n) F ∧ Kept w w' ∧ ∀ b, F b → w.heap.size ≤ b
  new_bad : ∀ (self n : Int) (w : World), 0 ≤ self → self < 256 → ¬ (1 ≤ n ∧ n ≤ 64 ∧ self < n) → Calls Try.prog 8 #[.int .u8 self, .int .i64 n] w fun e w' => e = .returned (.tuple #[.pointer none, .int .i64 1]) ∧ Kept w w'
  tick : ∀ (X : Nat) (p : Pb) (F : Nat → Prop) (x : Int) (hs : List Int) (hv : Value) (w : World), T w X p F → Gp p → p.ticks ≤ 1000 → 0 ≤ x → x < 18446744073709551616 → U8 hs → hs.length ≤ 100 → Rg encU 1 w hv hs → Calls Try.prog 13 #[.pointer (some ⟨X, 0, none⟩), .int .u64 x, hv] w (TickC T X (tickP p x) (tickR p x hs) F w)
  answer : ∀ (X : Nat) (p : Pb) (F : Nat → Prop) (a : Int) (w : World), T w X p F → Gp p → 0 ≤ a → a < 256 → Calls Try.prog 15 #[.pointer (some ⟨X, 0, none⟩), .int .u8 a] w fun e w' => ∃ F', e = .returned (.bool (isW p.waits a)) ∧ T w' X (ansP p a) F' ∧ Sd F w F' w'
  waits : ∀ (X : Nat) (p : Pb) (F : Nat → Prop) (w : World), T w X p F → Gp p → Calls Try.prog 17 #[.pointer (some ⟨X, 0, none⟩)] w fun e w' => ∃ r, e = .returned r ∧ Rg encU 1 w' r (nodW p) ∧ Kept w w'
  tick_nil : ∀ (x : Int) (w : World), 0 ≤ x → x < 18446744073709551616 → Calls Try.prog 13 #[.pointer none, .int .u64 x, .slice none 0 0] w fun e w' => ∃ pv av fv, e = .returned (.agg #[pv, av, fv]) ∧ Rw w' pv av fv ⟨[], [], []⟩ ∧ Kept w w'
  answer_nil : ∀ (a : Int) (w : World), 0 ≤ a → a < 256 → Calls Try.prog 15 #[.pointer none, .int .u8 a] w fun e w' => e = .returned (.bool false) ∧ Kept w w'
  waits_nil : ∀ (w : World), Calls Try.prog 17 #[.pointer none] w fun e w' => ∃ a cap, e = .returned (.slice a 0 cap) ∧ Kept w w'
/- Doubts: of each node an incarnation, and when it is over. -/
structure Db where
  inc : Int
  over : Int
def overL (g : Int → Option Db) (now : Int) : List Nw := (List.range 256).filterMap (fun (k : Nat) => match g (k : Int) with
  | none => none
  | some d => if d.over ≤ now then some ⟨(k : Int), 3, d.inc⟩ else none)
def leftG (g : Int → Option Db) (now : Int) (q : Int) : Option Db := match g q with
  | none => none
  | some d => if d.over ≤ now then none else some d
def mayB (g : Int → Option Db) (node inc : Int) : Bool := match g node with
  | none => true
  | some d => !decide (inc ≤ d.inc)
def mayE (g : Int → Option Db) (node inc : Int) : Bool := match g node with
  | none => false
  | some d => decide (d.inc < inc)
def putG (g : Int → Option Db) (x : Int) (d : Db) (q : Int) : Option Db := if q = x then some d else g q
def delG (g : Int → Option Db) (x : Int) (q : Int) : Option Db := if q = x then none else g q
structure Ds where
  n : Nat
  g : Int → Option Db
def Du (g : Int → Option Db) : Prop := ∀ x d, g x = some d → (0 ≤ x ∧ x < 256) ∧ (0 ≤ d.inc ∧ d.inc < 4294967296) ∧ 0 ≤ d.over ∧ d.over ≤ 1000000
structure DoubtsIs (T : Shape Ds) : Prop where
  obj : ObjIs T
  new_ok : ∀ (n : Nat) (w : World), 1 ≤ n → n ≤ 1000 → Calls Try.prog 19 #[.int .i64 (n : Int)] w fun e w' => ∃ X F, e = .returned (.tuple #[.pointer (some ⟨X, 0, none⟩), .int .i64 0]) ∧ T w' X ⟨n, fun _ => none⟩ F ∧ Kept w w' ∧ ∀ b, F b → w.heap.size ≤ b
  begin : ∀ (X : Nat) (s : Ds) (F : Nat → Prop) (node inc now : Int) (w : World), T w X s F → Du s.g → 1 ≤ s.n → s.n ≤ 1000 → 0 ≤ node → node < 256 → 0 ≤ inc → inc < 4294967296 → 0 ≤ now → now ≤ 900000 → Calls Try.prog 20 #[.pointer (some ⟨X, 0, none⟩), .int .u8 node, .int .u32 inc, .int .u64 now] w fun e w' => ∃ F', e = .returned (.bool (mayB s.g node inc)) ∧ T w' X ⟨s.n, if mayB s.g node inc then putG s.g node ⟨inc, now + (s.n : Int)⟩ else s.g⟩ F' ∧ Sd F w F' w'
  fin : ∀ (X : Nat) (s : Ds) (F : Nat → Prop) (node inc : Int) (w : World), T w X s F → Du s.g → 0 ≤ node → node < 256 → 0 ≤ inc → inc < 4294967296 → Calls Try.prog 21 #[.pointer (some ⟨X, 0, none⟩), .int .u8 node, .int .u32 inc] w fun e w' => ∃ F', e = .returned (.bool (mayE s.g node inc)) ∧ T w' X ⟨s.n, if mayE s.g node inc then delG s.g node else s.g⟩ F' ∧ Sd F w F' w'
  over : ∀ (X : Nat) (s : Ds) (F : Nat → Prop) (now : Int) (w : World), T w X s F → Du s.g → 0 ≤ now → now ≤ 1000000 → Calls Try.prog 22 #[.pointer (some ⟨X, 0, none⟩), .int .u64 now] w fun e w' => ∃ r F', e = .returned r ∧ Rg encN 3 w' r (overL s.g now) ∧ T w' X ⟨s.n, leftG s.g now⟩ F' ∧ Sd F w F' w'
  begin_nil : ∀ (node inc now : Int) (w : World), Calls Try.prog 20 #[.pointer none, .int .u8 node, .int .u32 inc, .int .u64 now] w fun e w' => e = .returned (.bool false) ∧ Kept w w'
  fin_nil : ∀ (node inc : Int) (w : World), Calls Try.prog 21 #[.pointer none, .int .u8 node, .int .u32 inc] w fun e w' => e = .returned (.bool false) ∧ Kept w w'
  over_nil : ∀ (now : Int) (w : World), Calls Try.prog 22 #[.pointer none, .int .u64 now] w fun e w' => ∃ a cap, e = .returned (.slice a 0 cap) ∧ Kept w w'
/- The reference's SameRound, of two that are the same. -/
theorem eq_self_A (a : Ask) (w : World) : (Op.equalIn 10000 80 (.agg #[.int .u8 a.helper, .int .u8 a.target]) (.agg #[.int .u8 a.helper, .int .u8 a.target])).run Try.prog w = .ok true w := by
  go_simp
theorem at_cells3' {w : World} {X T : Nat} {a0 a1 a2 : Value} (h : At w X #[a0, a1, a2] T) : w.cell? ⟨X, 0, none⟩ = some a0 ∧ w.cell? ⟨X, 1, none⟩ = some a1 ∧ w.cell? ⟨X, 2, none⟩ = some a2 := ⟨at_cell h 0, at_cell h 1, at_cell h 2⟩
set_option maxHeartbeats 3200000 in
theorem sameR_any (r : Rd) (hn : r.asks.length ≤ 4096) (h1 : U8 r.pings) (h2 : U8 r.failed) (pa aa fa pb ab fb : Value) (w : World) (ha : Rw w pa aa fa r) (hb : Rw w pb ab fb r) : Calls Try.prog 12 #[.agg #[pa, aa, fa], .agg #[pb, ab, fb]] w fun e w' => e = .returned (.bool true) ∧ Kept w w' := by
  have k0 := kept_alloc (kept_refl w) (.cells #[pa, aa, fa] 39)
  have a0 := at_new w #[pa, aa, fa] 39
  obtain ⟨w0, hw0⟩ : ∃ w0, w.alloc (.cells #[pa, aa, fa] 39) = w0 := ⟨_, rfl⟩
  obtain ⟨P, hP⟩ : ∃ P, w.heap.size = P := ⟨_, rfl⟩
  rw [hw0] at k0 a0
  rw [hP] at a0
  have k1 := kept_alloc (kept_refl w0) (.cells #[pb, ab, fb] 39)
  have b1 := at_new w0 #[pb, ab, fb] 39
  obtain ⟨w1, hw1⟩ : ∃ w1, w0.alloc (.cells #[pb, ab, fb] 39) = w1 := ⟨_, rfl⟩
  obtain ⟨Q, hQ⟩ : ∃ Q, w0.heap.size = Q := ⟨_, rfl⟩
  rw [hw1] at k1 b1
  rw [hQ] at b1
  have HA := hid (rw_kept ha (kept_trans k0 k1))
  have HB := hid (rw_kept hb (kept_trans k0 k1))
  have HP := hid (at_kept a0 k1)
  have HQ := hid b1
  have HK := hid (kept_trans k0 k1)
  have c1 := row_str h1 HA.out.p
  have c2 := row_str h1 HB.out.p
  have c3 := row_str h2 HA.out.f
  have c4 := row_str h2 HB.out.f
  obtain ⟨x1, y1, e1, -, -, -, -⟩ := HA.out.a
  obtain ⟨x2, y2, e2, -, -, -, -⟩ := HB.out.a
  subst e1 e2
  obtain ⟨p0, p1, p2⟩ := at_cells3' HP.out
  obtain ⟨q0, q1, q2⟩ := at_cells3' HQ.out
  have HG : Hid (∀ k, k < r.asks.length → ∃ y, r.asks[k]? = some y) := hid (fun k hk => ⟨r.asks[k], List.getElem?_eq_getElem hk⟩)
  have HPa : Hid (0 < r.asks.length → (∃ g o, x1 = some ⟨g, o, none⟩) ∧ ∃ g o, x2 = some ⟨g, o, none⟩) := hid (fun hp => by
    obtain ⟨g, o, c, e⟩ := rg_pos HA.out.a hp
    obtain ⟨g', o', c', e'⟩ := rg_pos HB.out.a hp
    injection e with e1
    injection e' with e2
    exact ⟨⟨g, o, e1⟩, ⟨g', o', e2⟩⟩)
  generalize bytesOf r.pings = s1 at *
  generalize bytesOf r.failed = s2 at *
  generalize hm : r.asks.length = m at *
  have hne : ((m : Int) != (m : Int)) = false := by simp
  clear k0 a0 k1 b1 h1 h2 ha hb hm
  go_enter Try.func12, Try.ntmps12
  go_wp2_with fail
  clear c1 c2 c3 c4 hw0 hw1 hP hQ p0 p1 p2 q0 q1 q2
  go_loopw [34] (fun iv wr => ∃ i : Nat, i ≤ m ∧ iv = .int .i64 (i : Int) ∧ Hid (Kept w1 wr)) (fun iv _ => m - (intOf iv).toNat)
  case atStart => exact ⟨0, Nat.zero_le _, rfl, hid (kept_refl _)⟩
  case round =>
    obtain ⟨i, hi, rfl, HKr⟩ := hrel
    by_cases hlt : i < m
    · obtain ⟨y, hy⟩ := HG.out i hlt
      obtain ⟨⟨g1, o1, rfl⟩, ⟨g2, o2, rfl⟩⟩ := HPa.out (by omega)
      obtain ⟨p0, p1, p2⟩ := at_cells3' (at_kept HP.out HKr.out)
      obtain ⟨q0, q1, q2⟩ := at_cells3' (at_kept HQ.out HKr.out)
      obtain ⟨d0, d1⟩ := rg_A (rg_kept encA_ok HA.out.a HKr.out) hy
      obtain ⟨f0, f1⟩ := rg_A (rg_kept encA_ok HB.out.a HKr.out) hy
      have heq := eq_self_A y
      clear hy
      go_wp2_with fail
      go_quiet (fail)
      go_wp2_with fail
      go_roundw
      case rel => exact ⟨i + 1, by omega, by go_num, hid (kept_drewN HKr.out _)⟩
      case measure => simp [intOf]; omega
    · have he : i = m := by omega
      subst he
      go_wp2_with fail
      go_ret
      exact ⟨rfl, kept_trans HK.out HKr.out⟩
end Go.Proofs.Ytgmcjnhijgnadaa
