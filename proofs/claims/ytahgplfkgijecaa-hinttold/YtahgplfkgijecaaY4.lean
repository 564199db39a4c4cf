/- The contracts of the landed All and Missing. The contract of the landed Missing. The contract of the landed Settle. The landed hints are as they must be; the five laws, of the landed code. -/
import Derived.Test.YtahgplfkgijecaaY3
import Derived.Test.YtahgplfkgijecaaHpMiss
import Derived.Test.YtahgplfkgijecaaGCopy
import Derived.Deep.CutBlock
import Derived.Test.YtahgplfkgijecaaHpSettle
import Derived.Laws.EntriesVeiled
import Derived.Test.YtahgplfkgijecaaHtOpen
import Derived.Test.YtahgplfkgijecaaHpPlays

namespace Go.Proofs.Ytahgplfkgijecaa
open Go.ChangeShapes Go.WideShapes Go.ChangeAt Go.RowKit
set_option linter.unusedVariables false
set_option linter.unusedSimpArgs false
set_option maxRecDepth 100000

theorem fill_set {α : Type} {l : List α} {i m : Nat} {x z : α} (hx : l[i]? = some x) (hm : l.length = m) : (l.take i ++ List.replicate (m - i) z).set i x = l.take (i + 1) ++ List.replicate (m - (i + 1)) z := by
  have hi := (List.getElem?_eq_some_iff.1 hx).1
  obtain ⟨d, hd⟩ : ∃ d, m - i = d + 1 := ⟨m - i - 1, by omega⟩
  have hl : (l.take i).length = i := by rw [List.length_take]; omega
  rw [hd, show m - (i + 1) = d by omega, List.replicate_succ, List.set_append_right _ _ (by omega), hl, Nat.sub_self, List.set_cons_zero, take_next hx, List.append_assoc]
  rfl
theorem at_setH {w : World} {X T G o : Nat} {cs : Array Value} (h : At w X cs T) (hn : X ≠ G) (y : Ht) : At (((((((((w.setCell ⟨G, o, none⟩ (.string y.r.key)).setCell ⟨G, o + 1, none⟩ (.int .u64 y.r.s.p)).setCell ⟨G, o + 2, none⟩ (.int .u32 y.r.s.l)).setCell ⟨G, o + 3, none⟩ (.int .u8 y.r.s.n)).setCell ⟨G, o + 4, none⟩ (.int .u8 y.r.kind)).setCell ⟨G, o + 5, none⟩ (.int .u32 y.r.flags)).setCell ⟨G, o + 6, none⟩ (.int .u64 y.r.exp)).setCell ⟨G, o + 7, none⟩ (.string y.r.body)).setCell ⟨G, o + 8, none⟩ (.int .u64 (ackI y.has 64))) X cs T :=
  at_other (at_other (at_other (at_other (at_other (at_other (at_other (at_other (at_other h hn _ _) hn _ _) hn _ _) hn _ _) hn _ _) hn _ _) hn _ _) hn _ _) hn _ _
def AllC (X : Nat) (s : Hs) (F : Nat → Prop) (w : World) (e : Ending) (w' : World) : Prop := ∃ r F', e = .returned r ∧ Og encH 9 61 w' 0 r s.l ∧ (∀ g, r.ownBlock = some g → ¬ F' g) ∧ (∀ g, r.ownBlock = some g → w.heap.size ≤ g) ∧ HO w' X s F' ∧ Sd F w F' w'
theorem all_end {X : Nat} {s : Hs} {F : Nat → Prop} {w w' : World} {r : Value} (h : HO w X s F) (k : Kept w w') (o : Og encH 9 61 w' 0 r s.l) (hr : ∀ g, r.ownBlock = some g → w.heap.size ≤ g) : AllC X s F w (.returned r) w' :=
  ⟨r, F, rfl, o, fun g hg hf => by have := ho_lt h hf; have := hr g hg; omega, hr, ho_stay h (fun b hb => kept_block k (ho_lt h hb)), sd_kept k⟩
set_option maxHeartbeats 6400000 in
theorem all_is (X : Nat) (t : Hs) (F : Nat → Prop) (w : World) (h : HO w X t F) (g : Hg t.n t.l) : Calls Try.prog 21 #[.pointer (some ⟨X, 0, none⟩)] w (AllC X t F w) := by
  have HH := hid h
  obtain ⟨v, hX, hO, -⟩ := h
  obtain ⟨va, vc, rfl, hc1, hc2⟩ := og_is encH_ok hO
  unfold maxLen at hc2
  have hll : t.l.length ≤ 64 := by have := g.len; have := g.n2; omega
  have HKs : Hid (∀ x ∈ t.l, x.r.key.size ≤ 1000) := hid (fun x hx => by
    have h9 := (g.may x hx).1
    unfold mayR keyMay at h9
    simp only [Bool.and_eq_true, decide_eq_true_eq] at h9
    have := h9.1.1.2
    omega)
  obtain ⟨n, l⟩ := t
  simp only at hll HKs hc1 hX hO ⊢
  obtain ⟨i0, hi0, hz0, hz1, hz2⟩ := info_parts infoH
  obtain ⟨cs, hmk, ho⟩ := og_full (P := Try.prog) (t := 52) (e := 61) encH_ok Try.underlying52 hi0 hz0 hz1 (by rw [hz2]; decide) (z := zeroH) (by simp [Value.cells]) l.length (by omega) w
  have kn := kept_alloc (kept_refl w) (.cells cs 61)
  obtain ⟨w1, hw1⟩ : ∃ w1, w.alloc (.cells cs 61) = w1 := ⟨_, rfl⟩
  obtain ⟨Q, hQ⟩ : ∃ Q, w.heap.size = Q := ⟨_, rfl⟩
  rw [hw1, hQ] at hmk ho
  rw [hw1] at kn
  have c1 : w.cell? ⟨X, 1, none⟩ = some (.slice va l.length vc) := at_cell hX 1
  have d1 : w1.cell? ⟨X, 1, none⟩ = some (.slice va l.length vc) := at_cell (at_kept hX kn) 1
  have HRv := hid (rg_own encH_ok hO)
  have HO1 := hid (og_low ho (Nat.zero_le _))
  have HK1 := hid kn
  have HQ := hid hQ
  have HG : Hid (∀ k : Nat, k < l.length → ∃ y, l[k]? = some y) := hid (fun k hk => ⟨l[k], List.getElem?_eq_getElem hk⟩)
  have HP : Hid (0 < l.length → ∃ g o, va = some ⟨g, o, none⟩) := hid (fun hp => by
    obtain ⟨g, o, c, e⟩ := rg_pos HRv.out hp
    injection e with e1
    exact ⟨g, o, e1⟩)
  have HTT : Hid (l.take l.length = l) := hid List.take_length
  have hz := zeroHt
  generalize hm : l.length = m at *
  have HM := hid hm
  clear hi0 hz0 hz1 hz2 ho kn hX hO g hm
  go_enter Try.func21, Try.ntmps21
  go_wp2_with fail
  clear hmk hw1 hQ c1 d1
  go_loopw [19] (fun iv wr => ∃ i : Nat, i ≤ m ∧ iv = .int .i64 (i : Int) ∧ Hid (Og encH 9 61 wr 0 (.slice (some ⟨Q, 0, none⟩) m m) (l.take i ++ List.replicate (m - i) zeroH)) ∧ Hid (Kept w wr)) (fun iv _ => m - (intOf iv).toNat)
  case atStart => exact ⟨0, Nat.zero_le _, rfl, hid (by simpa using HO1.out), HK1⟩
  case round =>
    obtain ⟨i, hi, rfl, HOr, HKr⟩ := hrel
    clear HO1 HK1
    by_cases hlt : i < m
    · have hltz : (i : Int) < (m : Int) := by omega
      obtain ⟨x, hx⟩ := HG.out i hlt
      obtain ⟨g1, o1, rfl⟩ := HP.out (by omega)
      obtain ⟨c0, c1, c2, c3, c4, c5, c6, c7, c8⟩ := rg_H (rg_kept encH_ok HRv.out HKr.out) hx
      have HY := hid (at_new wr #[.string x.r.key, .int .u64 x.r.s.p, .int .u32 x.r.s.l, .int .u8 x.r.s.n, .int .u8 x.r.kind, .int .u32 x.r.flags, .int .u64 x.r.exp, .string x.r.body, .int .u64 (ackI x.has 64)] 61)
      have ka := kept_alloc (kept_refl wr) (.cells #[.string x.r.key, .int .u64 x.r.s.p, .int .u32 x.r.s.l, .int .u8 x.r.s.n, .int .u8 x.r.kind, .int .u32 x.r.flags, .int .u64 x.r.exp, .string x.r.body, .int .u64 (ackI x.has 64)] 61)
      have HKa := hid ka
      have HFr := hid (fun u => fresh_any x.r (HKs.out x (List.mem_of_getElem? hx)) u)
      have HFl := hid (fill_set (z := zeroH) hx HM.out)
      obtain ⟨b0, b1, b2, b3, b4, b5, b6, b7, b8⟩ := cells9 HY.out
      obtain ⟨wa, hwa⟩ : ∃ u, wr.alloc (.cells #[.string x.r.key, .int .u64 x.r.s.p, .int .u32 x.r.s.l, .int .u8 x.r.s.n, .int .u8 x.r.kind, .int .u32 x.r.flags, .int .u64 x.r.exp, .string x.r.body, .int .u64 (ackI x.has 64)] 61) = u := ⟨_, rfl⟩
      obtain ⟨Y, hY⟩ : ∃ u, wr.heap.size = u := ⟨_, rfl⟩
      have HYe := hid hY
      rw [hwa] at HKa
      rw [hwa, hY] at HY
      have HPut : Hid (∀ u, Kept wa u → ((u.cell? ⟨Y, 0, none⟩ = some (.string x.r.key) ∧ u.cell? ⟨Y, 1, none⟩ = some (.int .u64 x.r.s.p) ∧ u.cell? ⟨Y, 2, none⟩ = some (.int .u32 x.r.s.l) ∧ u.cell? ⟨Y, 3, none⟩ = some (.int .u8 x.r.s.n) ∧ u.cell? ⟨Y, 4, none⟩ = some (.int .u8 x.r.kind) ∧ u.cell? ⟨Y, 5, none⟩ = some (.int .u32 x.r.flags) ∧ u.cell? ⟨Y, 6, none⟩ = some (.int .u64 x.r.exp) ∧ u.cell? ⟨Y, 7, none⟩ = some (.string x.r.body) ∧ u.cell? ⟨Y, 8, none⟩ = some (.int .u64 (ackI x.has 64))) ∧ (∃ z : Ht, u.cell? ⟨Q, i * 9, none⟩ = some (.string z.r.key) ∧ u.cell? ⟨Q, i * 9 + 1, none⟩ = some (.int .u64 z.r.s.p) ∧ u.cell? ⟨Q, i * 9 + 2, none⟩ = some (.int .u32 z.r.s.l) ∧ u.cell? ⟨Q, i * 9 + 3, none⟩ = some (.int .u8 z.r.s.n) ∧ u.cell? ⟨Q, i * 9 + 4, none⟩ = some (.int .u8 z.r.kind) ∧ u.cell? ⟨Q, i * 9 + 5, none⟩ = some (.int .u32 z.r.flags) ∧ u.cell? ⟨Q, i * 9 + 6, none⟩ = some (.int .u64 z.r.exp) ∧ u.cell? ⟨Q, i * 9 + 7, none⟩ = some (.string z.r.body) ∧ u.cell? ⟨Q, i * 9 + 8, none⟩ = some (.int .u64 (ackI z.has 64))) ∧ (∀ j, u.frozen? ⟨Q, j, none⟩ = false) ∧ Hid (Og encH 9 61 (((((((((u.setCell ⟨Q, i * 9, none⟩ (.string x.r.key)).setCell ⟨Q, i * 9 + 1, none⟩ (.int .u64 x.r.s.p)).setCell ⟨Q, i * 9 + 2, none⟩ (.int .u32 x.r.s.l)).setCell ⟨Q, i * 9 + 3, none⟩ (.int .u8 x.r.s.n)).setCell ⟨Q, i * 9 + 4, none⟩ (.int .u8 x.r.kind)).setCell ⟨Q, i * 9 + 5, none⟩ (.int .u32 x.r.flags)).setCell ⟨Q, i * 9 + 6, none⟩ (.int .u64 x.r.exp)).setCell ⟨Q, i * 9 + 7, none⟩ (.string x.r.body)).setCell ⟨Q, i * 9 + 8, none⟩ (.int .u64 (ackI x.has 64))) 0 (.slice (some ⟨Q, 0, none⟩) m m) (l.take (i + 1) ++ List.replicate (m - (i + 1)) zeroH)) ∧ Hid (Kept w (((((((((u.setCell ⟨Q, i * 9, none⟩ (.string x.r.key)).setCell ⟨Q, i * 9 + 1, none⟩ (.int .u64 x.r.s.p)).setCell ⟨Q, i * 9 + 2, none⟩ (.int .u32 x.r.s.l)).setCell ⟨Q, i * 9 + 3, none⟩ (.int .u8 x.r.s.n)).setCell ⟨Q, i * 9 + 4, none⟩ (.int .u8 x.r.kind)).setCell ⟨Q, i * 9 + 5, none⟩ (.int .u32 x.r.flags)).setCell ⟨Q, i * 9 + 6, none⟩ (.int .u64 x.r.exp)).setCell ⟨Q, i * 9 + 7, none⟩ (.string x.r.body)).setCell ⟨Q, i * 9 + 8, none⟩ (.int .u64 (ackI x.has 64)))) ∧ ((((((((((u.setCell ⟨Q, i * 9, none⟩ (.string x.r.key)).setCell ⟨Q, i * 9 + 1, none⟩ (.int .u64 x.r.s.p)).setCell ⟨Q, i * 9 + 2, none⟩ (.int .u32 x.r.s.l)).setCell ⟨Q, i * 9 + 3, none⟩ (.int .u8 x.r.s.n)).setCell ⟨Q, i * 9 + 4, none⟩ (.int .u8 x.r.kind)).setCell ⟨Q, i * 9 + 5, none⟩ (.int .u32 x.r.flags)).setCell ⟨Q, i * 9 + 6, none⟩ (.int .u64 x.r.exp)).setCell ⟨Q, i * 9 + 7, none⟩ (.string x.r.body)).setCell ⟨Q, i * 9 + 8, none⟩ (.int .u64 (ackI x.has 64))).cell? ⟨Y, 0, none⟩ = some (.string x.r.key) ∧ (((((((((u.setCell ⟨Q, i * 9, none⟩ (.string x.r.key)).setCell ⟨Q, i * 9 + 1, none⟩ (.int .u64 x.r.s.p)).setCell ⟨Q, i * 9 + 2, none⟩ (.int .u32 x.r.s.l)).setCell ⟨Q, i * 9 + 3, none⟩ (.int .u8 x.r.s.n)).setCell ⟨Q, i * 9 + 4, none⟩ (.int .u8 x.r.kind)).setCell ⟨Q, i * 9 + 5, none⟩ (.int .u32 x.r.flags)).setCell ⟨Q, i * 9 + 6, none⟩ (.int .u64 x.r.exp)).setCell ⟨Q, i * 9 + 7, none⟩ (.string x.r.body)).setCell ⟨Q, i * 9 + 8, none⟩ (.int .u64 (ackI x.has 64))).cell? ⟨Y, 1, none⟩ = some (.int .u64 x.r.s.p) ∧ (((((((((u.setCell ⟨Q, i * 9, none⟩ (.string x.r.key)).setCell ⟨Q, i * 9 + 1, none⟩ (.int .u64 x.r.s.p)).setCell ⟨Q, i * 9 + 2, none⟩ (.int .u32 x.r.s.l)).setCell ⟨Q, i * 9 + 3, none⟩ (.int .u8 x.r.s.n)).setCell ⟨Q, i * 9 + 4, none⟩ (.int .u8 x.r.kind)).setCell ⟨Q, i * 9 + 5, none⟩ (.int .u32 x.r.flags)).setCell ⟨Q, i * 9 + 6, none⟩ (.int .u64 x.r.exp)).setCell ⟨Q, i * 9 + 7, none⟩ (.string x.r.body)).setCell ⟨Q, i * 9 + 8, none⟩ (.int .u64 (ackI x.has 64))).cell? ⟨Y, 2, none⟩ = some (.int .u32 x.r.s.l) ∧ (((((((((u.setCell ⟨Q, i * 9, none⟩ (.string x.r.key)).setCell ⟨Q, i * 9 + 1, none⟩ (.int .u64 x.r.s.p)).setCell ⟨Q, i * 9 + 2, none⟩ (.int .u32 x.r.s.l)).setCell ⟨Q, i * 9 + 3, none⟩ (.int .u8 x.r.s.n)).setCell ⟨Q, i * 9 + 4, none⟩ (.int .u8 x.r.kind)).setCell ⟨Q, i * 9 + 5, none⟩ (.int .u32 x.r.flags)).setCell ⟨Q, i * 9 + 6, none⟩ (.int .u64 x.r.exp)).setCell ⟨Q, i * 9 + 7, none⟩ (.string x.r.body)).setCell ⟨Q, i * 9 + 8, none⟩ (.int .u64 (ackI x.has 64))).cell? ⟨Y, 3, none⟩ = some (.int .u8 x.r.s.n) ∧ (((((((((u.setCell ⟨Q, i * 9, none⟩ (.string x.r.key)).setCell ⟨Q, i * 9 + 1, none⟩ (.int .u64 x.r.s.p)).setCell ⟨Q, i * 9 + 2, none⟩ (.int .u32 x.r.s.l)).setCell ⟨Q, i * 9 + 3, none⟩ (.int .u8 x.r.s.n)).setCell ⟨Q, i * 9 + 4, none⟩ (.int .u8 x.r.kind)).setCell ⟨Q, i * 9 + 5, none⟩ (.int .u32 x.r.flags)).setCell ⟨Q, i * 9 + 6, none⟩ (.int .u64 x.r.exp)).setCell ⟨Q, i * 9 + 7, none⟩ (.string x.r.body)).setCell ⟨Q, i * 9 + 8, none⟩ (.int .u64 (ackI x.has 64))).cell? ⟨Y, 4, none⟩ = some (.int .u8 x.r.kind) ∧ (((((((((u.setCell ⟨Q, i * 9, none⟩ (.string x.r.key)).setCell ⟨Q, i * 9 + 1, none⟩ (.int .u64 x.r.s.p)).setCell ⟨Q, i * 9 + 2, none⟩ (.int .u32 x.r.s.l)).setCell ⟨Q, i * 9 + 3, none⟩ (.int .u8 x.r.s.n)).setCell ⟨Q, i * 9 + 4, none⟩ (.int .u8 x.r.kind)).setCell ⟨Q, i * 9 + 5, none⟩ (.int .u32 x.r.flags)).setCell ⟨Q, i * 9 + 6, none⟩ (.int .u64 x.r.exp)).setCell ⟨Q, i * 9 + 7, none⟩ (.string x.r.body)).setCell ⟨Q, i * 9 + 8, none⟩ (.int .u64 (ackI x.has 64))).cell? ⟨Y, 5, none⟩ = some (.int .u32 x.r.flags) ∧ (((((((((u.setCell ⟨Q, i * 9, none⟩ (.string x.r.key)).setCell ⟨Q, i * 9 + 1, none⟩ (.int .u64 x.r.s.p)).setCell ⟨Q, i * 9 + 2, none⟩ (.int .u32 x.r.s.l)).setCell ⟨Q, i * 9 + 3, none⟩ (.int .u8 x.r.s.n)).setCell ⟨Q, i * 9 + 4, none⟩ (.int .u8 x.r.kind)).setCell ⟨Q, i * 9 + 5, none⟩ (.int .u32 x.r.flags)).setCell ⟨Q, i * 9 + 6, none⟩ (.int .u64 x.r.exp)).setCell ⟨Q, i * 9 + 7, none⟩ (.string x.r.body)).setCell ⟨Q, i * 9 + 8, none⟩ (.int .u64 (ackI x.has 64))).cell? ⟨Y, 6, none⟩ = some (.int .u64 x.r.exp) ∧ (((((((((u.setCell ⟨Q, i * 9, none⟩ (.string x.r.key)).setCell ⟨Q, i * 9 + 1, none⟩ (.int .u64 x.r.s.p)).setCell ⟨Q, i * 9 + 2, none⟩ (.int .u32 x.r.s.l)).setCell ⟨Q, i * 9 + 3, none⟩ (.int .u8 x.r.s.n)).setCell ⟨Q, i * 9 + 4, none⟩ (.int .u8 x.r.kind)).setCell ⟨Q, i * 9 + 5, none⟩ (.int .u32 x.r.flags)).setCell ⟨Q, i * 9 + 6, none⟩ (.int .u64 x.r.exp)).setCell ⟨Q, i * 9 + 7, none⟩ (.string x.r.body)).setCell ⟨Q, i * 9 + 8, none⟩ (.int .u64 (ackI x.has 64))).cell? ⟨Y, 7, none⟩ = some (.string x.r.body) ∧ (((((((((u.setCell ⟨Q, i * 9, none⟩ (.string x.r.key)).setCell ⟨Q, i * 9 + 1, none⟩ (.int .u64 x.r.s.p)).setCell ⟨Q, i * 9 + 2, none⟩ (.int .u32 x.r.s.l)).setCell ⟨Q, i * 9 + 3, none⟩ (.int .u8 x.r.s.n)).setCell ⟨Q, i * 9 + 4, none⟩ (.int .u8 x.r.kind)).setCell ⟨Q, i * 9 + 5, none⟩ (.int .u32 x.r.flags)).setCell ⟨Q, i * 9 + 6, none⟩ (.int .u64 x.r.exp)).setCell ⟨Q, i * 9 + 7, none⟩ (.string x.r.body)).setCell ⟨Q, i * 9 + 8, none⟩ (.int .u64 (ackI x.has 64))).cell? ⟨Y, 8, none⟩ = some (.int .u64 (ackI x.has 64))))) := hid (fun u ku => by
        have y := at_kept HY.out ku
        have o := og_stays HOr.out (kept_trans HKa.out ku)
        have k := kept_trans HKr.out (kept_trans HKa.out ku)
        obtain ⟨cs, hcs⟩ := og_type o
        have nQY : Y ≠ Q := by
          intro e
          subst e
          have h1 := (World.ownsRow.lt HOr.out Y rfl).2
          have h2 := HYe.out
          omega
        obtain ⟨z, hz⟩ : ∃ z, (l.take i ++ List.replicate (m - i) zeroH)[i]? = some z := by
          have hlen := (og_len encH_ok o).1
          exact ⟨_, List.getElem?_eq_getElem (by omega)⟩
        have q := rg_H (rg_own encH_ok o) hz
        simp only [Nat.zero_add] at q
        have o2 := og_setH o (k := i) hlt x
        rw [HFl.out] at o2
        have y2 := at_setH (o := i * 9) y nQY x
        exact ⟨cells9 y, ⟨z, q⟩, og_frozen o, o2, kept_turn k (by have := HQ.out; omega) (turn_setH (Turn.refl Q u) x), cells9 y2⟩)
      clear hx ka
      go_wp2_with fail
      clear hwa hY c0 c1 c2 c3 c4 c5 c6 c7 c8 b0 b1 b2 b3 b4 b5 b6 b7 b8
      have HKd : Hid (Kept wa wa.drew) := hid (kept_drewN (kept_refl wa) 1)
      obtain ⟨hS, -, -, -, -, -⟩ := HPut.out wa.drew HKd.out
      refine wp_region_noPanic ?_
      refine wp_region_held_drew (S := (fun w' => (w'.cell? ⟨Y, 0, none⟩ = some (.string x.r.key)) ∧ (w'.cell? ⟨Y, 1, none⟩ = some (.int .u64 x.r.s.p)) ∧ (w'.cell? ⟨Y, 2, none⟩ = some (.int .u32 x.r.s.l)) ∧ (w'.cell? ⟨Y, 3, none⟩ = some (.int .u8 x.r.s.n)) ∧ (w'.cell? ⟨Y, 4, none⟩ = some (.int .u8 x.r.kind)) ∧ (w'.cell? ⟨Y, 5, none⟩ = some (.int .u32 x.r.flags)) ∧ (w'.cell? ⟨Y, 6, none⟩ = some (.int .u64 x.r.exp)) ∧ (w'.cell? ⟨Y, 7, none⟩ = some (.string x.r.body)) ∧ (w'.cell? ⟨Y, 8, none⟩ = some (.int .u64 (ackI x.has 64))))) (by kernel_rfl) (hS) (fun hHeld => ?_)
      generalize wa.drew = wd at *
      refine wpAnyH_take (i := 0) (v := .slice (some ⟨Q, 0, none⟩) m m) rfl (by kernel_rfl) (by kernel_rfl) (by kernel_rfl) (fun _ _ _ h => h) (Or.inl ⟨by rfl, fun w hSw => by (try dsimp only at hSw); go_simp⟩) (by assumption) ?_
      try simp only [List.getElem_toArray, List.getElem_cons_zero, List.getElem_cons_succ, Act.put, List.setIfInBounds_toArray, List.set_cons_zero, List.set_cons_succ]
      refine wpAnyH_take (i := 1) (v := .int .i64 (i : Int)) rfl (by kernel_rfl) (by kernel_rfl) (by kernel_rfl) (fun _ _ _ h => h) (Or.inl ⟨by rfl, fun w hSw => by (try dsimp only at hSw); go_simp⟩) (by assumption) ?_
      try simp only [List.getElem_toArray, List.getElem_cons_zero, List.getElem_cons_succ, Act.put, List.setIfInBounds_toArray, List.set_cons_zero, List.set_cons_succ]
      refine wpAnyH_take (i := 2) (v := .pointer (some ⟨Y, 0, none⟩)) rfl (by kernel_rfl) (by kernel_rfl) (by kernel_rfl) (fun _ _ _ h => h) (Or.inl ⟨by rfl, fun w hSw => by (try dsimp only at hSw); go_simp⟩) (by assumption) ?_
      try simp only [List.getElem_toArray, List.getElem_cons_zero, List.getElem_cons_succ, Act.put, List.setIfInBounds_toArray, List.set_cons_zero, List.set_cons_succ]
      refine wpAnyH_take (i := 3) (v := .agg #[.string x.r.key, .int .u64 x.r.s.p, .int .u32 x.r.s.l, .int .u8 x.r.s.n, .int .u8 x.r.kind, .int .u32 x.r.flags, .int .u64 x.r.exp, .string x.r.body]) rfl (by kernel_rfl) (by kernel_rfl) (by kernel_rfl) (fun _ _ _ h => h) (Or.inl ⟨by rfl, fun w hSw => by (try dsimp only at hSw); go_simp⟩) (by assumption) ?_
      try simp only [List.getElem_toArray, List.getElem_cons_zero, List.getElem_cons_succ, Act.put, List.setIfInBounds_toArray, List.set_cons_zero, List.set_cons_succ]
      refine wpAnyH_take (i := 5) (v := .pointer (some ⟨Y, 8, none⟩)) rfl (by kernel_rfl) (by kernel_rfl) (by kernel_rfl) (fun _ _ _ h => h) (Or.inl ⟨by rfl, fun w hSw => by (try dsimp only at hSw); go_simp⟩) (by assumption) ?_
      try simp only [List.getElem_toArray, List.getElem_cons_zero, List.getElem_cons_succ, Act.put, List.setIfInBounds_toArray, List.set_cons_zero, List.set_cons_succ]
      refine wpAnyH_take (i := 6) (v := .int .u64 (ackI x.has 64)) rfl (by kernel_rfl) (by kernel_rfl) (by kernel_rfl) (fun _ _ _ h => h) (Or.inl ⟨by rfl, fun w hSw => by (try dsimp only at hSw); go_simp⟩) (by assumption) ?_
      try simp only [List.getElem_toArray, List.getElem_cons_zero, List.getElem_cons_succ, Act.put, List.setIfInBounds_toArray, List.set_cons_zero, List.set_cons_succ]
      refine wpAnyH_ready (rs := [4]) (by kernel_rfl) (by simp) ?_
      refine AllReadyH.cons (i := 4) rfl (fun K hK => ?_) AllReadyH.nil
      go_simp
      refine (HFr.out wd).mono ?_
      rintro e w6 ⟨rfl, k6⟩
      have HK6 := hid (kept_trans HKd.out k6)
      obtain ⟨hS, ⟨z, hq⟩, hfz, hO9, hK9, hS9⟩ := HPut.out w6 HK6.out
      have HS9 := hid hS9
      clear k6 hS9
      clear hHeld
      show K _ _
      refine hK.out _ _ (hS) (fun hHeld => ?_)
      clear hK K
      try simp only [List.getElem_toArray, List.getElem_cons_zero, List.getElem_cons_succ, Act.put, List.setIfInBounds_toArray, List.set_cons_zero, List.set_cons_succ]
      refine wpAnyH_take (i := 7) (v := .agg #[.string x.r.key, .int .u64 x.r.s.p, .int .u32 x.r.s.l, .int .u8 x.r.s.n, .int .u8 x.r.kind, .int .u32 x.r.flags, .int .u64 x.r.exp, .string x.r.body, .int .u64 (ackI x.has 64)]) rfl (by kernel_rfl) (by kernel_rfl) (by kernel_rfl) (fun _ _ _ h => h) (Or.inl ⟨by rfl, fun w hSw => by (try dsimp only at hSw); go_simp⟩) (by assumption) ?_
      try simp only [List.getElem_toArray, List.getElem_cons_zero, List.getElem_cons_succ, Act.put, List.setIfInBounds_toArray, List.set_cons_zero, List.set_cons_succ]
      refine wpAnyH_take (i := 8) (v := .pointer (some ⟨Q, i * 9, none⟩)) rfl (by kernel_rfl) (by kernel_rfl) (by kernel_rfl) (fun _ _ _ h => h) (Or.inl ⟨by rfl, fun w hSw => by (try dsimp only at hSw); go_simp⟩) (by assumption) ?_
      try simp only [List.getElem_toArray, List.getElem_cons_zero, List.getElem_cons_succ, Act.put, List.setIfInBounds_toArray, List.set_cons_zero, List.set_cons_succ]
      refine wpAnyH_ready (rs := [9]) (by kernel_rfl) (by simp) ?_
      refine AllReadyH.cons (i := 9) rfl (fun K hK => ?_) AllReadyH.nil
      obtain ⟨y0, y1, y2, y3, y4, y5, y6, y7, y8⟩ := hq
      go_simp
      have hS := HS9.out
      clear hHeld
      show K _ _
      refine hK.out _ _ (hS) (fun hHeld => ?_)
      clear hK K
      try simp only [List.getElem_toArray, List.getElem_cons_zero, List.getElem_cons_succ, Act.put, List.setIfInBounds_toArray, List.set_cons_zero, List.set_cons_succ]
      refine wpAnyH_done (by kernel_rfl) ?_ _
      refine NoPanic.normal ?_
      clear hHeld hS
      go_wp2_with fail
      go_roundw
      case rel => exact ⟨i + 1, by omega, by go_num, hO9, hK9⟩
      case measure => simp [intOf]; omega
    · have hltz : ¬ (i : Int) < (m : Int) := by omega
      obtain rfl : i = m := by omega
      have hO := HOr.out
      rw [HTT.out, Nat.sub_self, List.replicate_zero, List.append_nil] at hO
      have HO2 := hid hO
      clear hO
      go_wp2_with fail
      go_ret
      exact all_end HH.out HKr.out HO2.out (fun g hg => by injection hg with hg; subst hg; exact Nat.le_of_eq HQ.out)
end Go.Proofs.Ytahgplfkgijecaa


namespace Go.Proofs.Ytahgplfkgijecaa
open Go.ChangeShapes Go.WideShapes Go.ChangeAt Go.RowKit
set_option linter.unusedVariables false
set_option linter.unusedSimpArgs false
set_option maxRecDepth 100000

def MissC (X : Nat) (s : Hs) (F : Nat → Prop) (l : List Snd) (w : World) (e : Ending) (w' : World) : Prop := ∃ r F', e = .returned r ∧ Og encD 9 66 w' 0 r l ∧ (∀ g, r.ownBlock = some g → ¬ F' g) ∧ HO w' X s F' ∧ Sd F w F' w'
theorem miss_end {X : Nat} {s : Hs} {F : Nat → Prop} {w w' : World} {r : Value} {l : List Snd} (h : HO w X s F) (k : Kept w w') (o : Og encD 9 66 w' w.heap.size r l) : MissC X s F l w (.returned r) w' :=
  ⟨r, F, rfl, og_low o (Nat.zero_le _), fun g hg hf => by have := ho_lt h hf; have := og_lt o hg; omega, ho_stay h (fun b hb => kept_block k (ho_lt h hb)), sd_kept k⟩
set_option maxHeartbeats 6400000 in
theorem missing_is (X : Nat) (t : Hs) (F : Nat → Prop) (up : List Int) (vu : Value) (w : World) (h : HO w X t F) (g : Hg t.n t.l) (hu : U8 up) (hup : Rg encU 1 w vu up) : Calls Try.prog 16 #[.pointer (some ⟨X, 0, none⟩), vu] w (MissC X t F (missL t.l up) w) := by
  have HH := hid h
  have HU := hid hup
  have HU8 := hid hu
  obtain ⟨v, hX, hO, -⟩ := h
  obtain ⟨va, vc, rfl, hc1, hc2⟩ := og_is encH_ok hO
  unfold maxLen at hc2
  have hll : t.l.length ≤ 64 := by have := g.len; have := g.n2; omega
  have HKs : Hid (∀ x ∈ t.l, x.r.key.size ≤ 1000) := hid (fun x hx => by
    have h9 := (g.may x hx).1
    unfold mayR keyMay at h9
    simp only [Bool.and_eq_true, decide_eq_true_eq] at h9
    have := h9.1.1.2
    omega)
  obtain ⟨n, l⟩ := t
  simp only at hll HKs hc1 hX hO ⊢
  obtain ⟨ua, uc, rfl, -, -⟩ := rg_is HU.out
  have c1 : w.cell? ⟨X, 1, none⟩ = some (.slice va l.length vc) := at_cell hX 1
  have HRv := hid (rg_own encH_ok hO)
  have HG : Hid (∀ k : Nat, k < l.length → ∃ y, l[k]? = some y) := hid (fun k hk => ⟨l[k], List.getElem?_eq_getElem hk⟩)
  have HP : Hid (0 < l.length → ∃ g o, va = some ⟨g, o, none⟩) := hid (fun hp => by
    obtain ⟨g, o, c, e⟩ := rg_pos HRv.out hp
    injection e with e1
    exact ⟨g, o, e1⟩)
  have HTT : Hid (l.take l.length = l) := hid List.take_length
  have HLn : Hid (∀ i, (missL (l.take i) up).length ≤ 128) := hid (fun i => by
    have h1 := missL_len up (l.take i)
    have h3 : (l.take i).length ≤ l.length := by rw [List.length_take]; omega
    omega)
  have hz := zeroHt
  generalize hm : l.length = m at *
  clear hX hO g hm hup hu
  go_enter Try.func16, Try.ntmps16
  go_wp2_with fail
  clear c1
  go_loopw [5, 17] (fun sv iv wr => ∃ i : Nat, i ≤ m ∧ iv = .int .i64 (i : Int) ∧ Hid (Og encD 9 66 wr w.heap.size sv (missL (l.take i) up)) ∧ Hid (Kept w wr)) (fun _ iv _ => m - (intOf iv).toNat)
  case atStart => exact ⟨0, Nat.zero_le _, rfl, hid (og_nil _ _ _ _ _), hid (kept_refl w)⟩
  case round =>
    obtain ⟨i, hi, rfl, HOr, HKr⟩ := hrel
    by_cases hlt : i < m
    · have hltz : (i : Int) < (m : Int) := by omega
      obtain ⟨x, hx⟩ := HG.out i hlt
      obtain ⟨g1, o1, rfl⟩ := HP.out (by omega)
      obtain ⟨c0, c1, c2, c3, c4, c5, c6, c7, c8⟩ := rg_H (rg_kept encH_ok HRv.out HKr.out) hx
      have HY := hid (at_new wr #[.string x.r.key, .int .u64 x.r.s.p, .int .u32 x.r.s.l, .int .u8 x.r.s.n, .int .u8 x.r.kind, .int .u32 x.r.flags, .int .u64 x.r.exp, .string x.r.body, .int .u64 (ackI x.has 64)] 61)
      have ka := kept_alloc (kept_refl wr) (.cells #[.string x.r.key, .int .u64 x.r.s.p, .int .u32 x.r.s.l, .int .u8 x.r.s.n, .int .u8 x.r.kind, .int .u32 x.r.flags, .int .u64 x.r.exp, .string x.r.body, .int .u64 (ackI x.has 64)] 61)
      have HKx : Hid (x.r.key.size ≤ 1000) := hid (HKs.out x (List.mem_of_getElem? hx))
      have HFr := hid (fun u => fresh_any x.r HKx.out u)
      have HHs := hid (fun (k : Nat) (hk : k < 64) (u : World) => has_any x k hk u)
      have HNx := hid (missL_next hx up)
      have HYn : Hid (∀ (j : Nat) (y : Int), (owners x.r.key up)[j]? = some y → ∃ k : Nat, y = (k : Int) ∧ k < 64) := hid (fun j y hy => owner_nat hy)
      have HOl := hid (owners_len x.r.key up)
      have HKa := hid (kept_trans HKr.out ka)
      have HOa := hid (og_stays HOr.out ka)
      have hC := owners_any x.r.key up _ _ HKx.out HU8.out (rg_kept encU_ok HU.out HKa.out)
      obtain ⟨b0, b1, b2, b3, b4, b5, b6, b7, b8⟩ := cells9 HY.out
      clear hx ka
      generalize owners x.r.key up = os at *
      go_wp2_with fail
      refine hC.mono ?_
      rintro e w2 ⟨v2, rfl, o2', k2⟩
      generalize wr.heap.size = Y at *
      have HY2 := hid (at_kept HY.out k2)
      have HOs := hid (og_low o2' (Nat.zero_le _))
      have HR2 := hid (rg_own encU_ok o2')
      have HOo := hid (og_stays HOa.out k2)
      have HK2 := hid (kept_trans HKa.out k2)
      clear hC o2' k2 c0 c1 c2 c3 c4 c5 c6 c7 c8 b0 b1 b2 b3 b4 b5 b6 b7 b8
      obtain ⟨oa, oc, rfl, -, -, -, -⟩ := HR2.out
      have HG2 : Hid (∀ k, k < os.length → ∃ y, os[k]? = some y) := hid (fun k hk => ⟨os[k], List.getElem?_eq_getElem hk⟩)
      have HP2 : Hid (0 < os.length → ∃ g o, oa = some ⟨g, o, none⟩) := hid (fun hp => by
        obtain ⟨g, o, c, e⟩ := rg_pos HR2.out hp
        injection e with e1
        exact ⟨g, o, e1⟩)
      have HTo : Hid (os.take os.length = os) := hid List.take_length
      have hq2 : os.length ≤ 2 := HOl.out
      generalize hq : os.length = q at *
      clear hq
      go_wp2_with fail
      go_loopw [5, 27] (fun rv jv wi => ∃ j : Nat, j ≤ q ∧ jv = .int .i64 (j : Int) ∧ Hid (Og encD 9 66 wi w.heap.size rv (missL (l.take i) up ++ missP x.r x.has (os.take j))) ∧ Hid (Og encU 1 5 wi 0 (.slice oa q oc) os) ∧ Hid (At wi Y #[.string x.r.key, .int .u64 x.r.s.p, .int .u32 x.r.s.l, .int .u8 x.r.s.n, .int .u8 x.r.kind, .int .u32 x.r.flags, .int .u64 x.r.exp, .string x.r.body, .int .u64 (ackI x.has 64)] 61) ∧ Hid (Kept w wi)) (fun _ jv _ => q - (intOf jv).toNat)
      case atStart => exact ⟨0, Nat.zero_le _, rfl, hid (by rw [List.take_zero]; show Og _ _ _ _ _ _ (missL (l.take i) up ++ []); rw [List.append_nil]; exact HOo.out), HOs, HY2, HK2⟩
      case round =>
        obtain ⟨j, hj, rfl, HOi, HQi, HYi, HKi⟩ := hrel
        clear HOo HOs HY2 HK2
        by_cases hjl : j < q
        · have hjz : (j : Int) < (q : Int) := by omega
          obtain ⟨y, hy⟩ := HG2.out j hjl
          obtain ⟨k, rfl, hk64⟩ := HYn.out j y hy
          obtain ⟨g2, o2, rfl⟩ := HP2.out (by omega)
          have cy := rg_U (rg_own encU_ok HQi.out) hy
          have hTk := take_next hy
          obtain ⟨b0, b1, b2, b3, b4, b5, b6, b7, b8⟩ := cells9 HYi.out
          have hh := HHs.out k hk64 wr
          cases hb : x.has k with
          | true =>
            rw [hb] at hh
            have HM : Hid (missP x.r x.has (os.take (j + 1)) = missP x.r x.has (os.take j)) := hid (by rw [hTk]; exact missP_no hb)
            clear hy hTk hb
            go_wp2_with fail
            refine hh.mono ?_
            rintro e w3 ⟨rfl, k3⟩
            have HK3 := hid (kept_trans HKi.out k3)
            have HO3 := hid (og_stays HOi.out k3)
            have HQ3 := hid (og_stays HQi.out k3)
            have HY3 := hid (at_kept HYi.out k3)
            clear hh k3 cy b0 b1 b2 b3 b4 b5 b6 b7 b8
            go_wp2_with fail
            go_roundw
            case rel => exact ⟨j + 1, by omega, by go_num, hid (by rw [HM.out]; exact HO3.out), HQ3, HY3, HK3⟩
            case measure => simp [intOf]; omega
          | false =>
            rw [hb] at hh
            have HM : Hid (missP x.r x.has (os.take (j + 1)) = missP x.r x.has (os.take j) ++ [⟨(k : Int), x.r⟩]) := hid (by rw [hTk]; exact missP_yes hb)
            have HLp : Hid ((missP x.r x.has (os.take j)).length ≤ 2) := hid (by
              have h1 := missP_len x.r x.has (os.take j)
              have h2 : (os.take j).length ≤ 2 := by rw [List.length_take]; omega
              omega)
            clear hy hTk hb
            go_wp2_with fail
            refine hh.mono ?_
            rintro e w3 ⟨rfl, k3⟩
            have HK3 := hid (kept_trans HKi.out k3)
            have HO3 := hid (og_stays HOi.out k3)
            have HQ3 := hid (og_stays HQi.out k3)
            have HY3 := hid (at_kept HYi.out k3)
            clear hh k3 cy b0 b1 b2 b3 b4 b5 b6 b7 b8
            obtain ⟨b0, b1, b2, b3, b4, b5, b6, b7, b8⟩ := cells9 HY3.out
            have hf := HFr.out w3
            go_wp2_with fail
            refine hf.mono ?_
            rintro e w4 ⟨rfl, k4⟩
            have HK4 := hid (kept_trans HK3.out k4)
            have HO4 := hid (og_stays HO3.out k4)
            have HQ4 := hid (og_stays HQ3.out k4)
            have HY4 := hid (at_kept HY3.out k4)
            have hka := kept_alloc (kept_refl w4) (.cells #[.int .u8 (k : Int), .string x.r.key, .int .u64 x.r.s.p, .int .u32 x.r.s.l, .int .u8 x.r.s.n, .int .u8 x.r.kind, .int .u32 x.r.flags, .int .u64 x.r.exp, .string x.r.body] 66)
            have HKb := hid (kept_trans HK4.out hka)
            have HOb := hid (og_stays HO4.out hka)
            have HQb := hid (og_stays HQ4.out hka)
            have HYb := hid (at_kept HY4.out hka)
            have HAl := hid (rg_alone encD_ok (y := (⟨(k : Int), x.r⟩ : Snd)) (at_new w4 #[.int .u8 (k : Int), .string x.r.key, .int .u64 x.r.s.p, .int .u32 x.r.s.l, .int .u8 x.r.s.n, .int .u8 x.r.kind, .int .u32 x.r.flags, .int .u64 x.r.exp, .string x.r.body] 66))
            clear hf k4 hka b0 b1 b2 b3 b4 b5 b6 b7 b8 HOi HQi HYi HKi HO3 HQ3 HY3 HK3 HO4 HQ4 HY4
            go_wp2_with (at_builtin; refine wpList_gapp rfl (.tmp 35) (.tmp 41) rfl encD_ok tyD (by decide) w.heap.size _ _ _ [⟨(k : Int), x.r⟩] rfl HOb.out rfl HAl.out (by have := HLn.out i; have := HLp.out; rw [List.length_append]; simp; omega) HKb.out.2 ?_; intro v7 w7 hown7 hgrow7 hnil7; have HO7 : Hid (Og encD 9 66 w7 w.heap.size v7 (missL (l.take i) up ++ missP x.r x.has (os.take (j + 1)))) := hid (by rw [HM.out, ← List.append_assoc]; exact hown7); have HK7 := hid (kept_gr HKb.out hgrow7 (fun q hq => og_lt HOb.out hq)); have HQ7 := hid (og_beside HQb.out HOb.out (by decide) hgrow7); have HY7 := hid (at_beside HYb.out HOb.out (by decide) hgrow7); clear hown7 hgrow7 hnil7)
            go_roundw
            case rel => exact ⟨j + 1, by omega, by go_num, HO7, HQ7, HY7, HK7⟩
            case measure => simp [intOf]; omega
        · have hjz : ¬ (j : Int) < (q : Int) := by omega
          have hje : j = q := by omega
          subst hje
          go_wp2_with fail
          go_roundw
          case rel => exact ⟨i + 1, by omega, by go_num, hid (by rw [HNx.out]; have := HOi.out; rw [HTo.out] at this; exact this), HKi⟩
          case measure => simp [intOf]; omega
    · have hltz : ¬ (i : Int) < (m : Int) := by omega
      have he : i = m := by omega
      subst he
      have hO := HOr.out
      rw [HTT.out] at hO
      have HO2 := hid hO
      clear hO
      go_wp2_with fail
      go_ret
      exact miss_end HH.out HKr.out HO2.out
end Go.Proofs.Ytahgplfkgijecaa


namespace Go.Proofs.Ytahgplfkgijecaa
open Go.ChangeShapes Go.WideShapes Go.ChangeAt Go.RowKit
set_option linter.unusedVariables false
set_option linter.unusedSimpArgs false
set_option maxRecDepth 100000

theorem own_pick (v : Value) (N : Nat) : ∃ G, (∀ b, v.ownBlock = some b → b = G) ∧ (v.ownBlock = some G ∨ (v.ownBlock = none ∧ N ≤ G)) := by
  cases e : v.ownBlock with
  | none => exact ⟨N, fun b hb => (by cases hb), .inr ⟨rfl, Nat.le_refl _⟩⟩
  | some g => exact ⟨g, fun b hb => by injection hb with hb; exact hb.symm, .inl rfl⟩
theorem rg_turn {α : Type} {enc : α → List Value} {c G : Nat} {w u : World} {v : Value} {xs : List α} (h : Rg enc c w v xs) (t : Turn G w u) (hn : 0 < xs.length → ∀ g, v.ownBlock = some g → g ≠ G) : Rg enc c u v xs := by
  obtain ⟨a, cap, rfl, h1, h2, h3, h4⟩ := h
  refine ⟨a, cap, rfl, h1, h2, h3, fun hp => ?_⟩
  obtain ⟨g, o, rfl, hc⟩ := h4 hp
  refine ⟨g, o, rfl, fun i x j y hx hy => ?_⟩
  have h5 := hc i x j y hx hy
  exact (World.cell?_of_block (w := w) (t.2.2.2 g (gcell_lt h5) (hn hp g rfl))).trans h5
def SetC (X : Nat) (s : Hs) (F : Nat → Prop) (l : List Ht) (w : World) (e : Ending) (w' : World) : Prop := ∃ F', e = .returned (.int .i64 ((s.l.length - l.length : Nat) : Int)) ∧ HO w' X ⟨s.n, l⟩ F' ∧ Sd F w F' w'
theorem set_end {X : Nat} {s : Hs} {F F' : Nat → Prop} {l : List Ht} {w w' : World} {z : Int} (hz : z = ((s.l.length - l.length : Nat) : Int)) (h : HO w' X ⟨s.n, l⟩ F') (d : Sd F w F' w') : SetC X s F l w (.returned (.int .i64 z)) w' := ⟨F', by rw [hz], h, d⟩
set_option maxHeartbeats 6400000 in
theorem settle_is (X : Nat) (t : Hs) (F : Nat → Prop) (up : List Int) (vu : Value) (w : World) (h : HO w X t F) (g : Hg t.n t.l) (hu : U8 up) (hup : Rg encU 1 w vu up) (hn : Far F vu up) : Calls Try.prog 19 #[.pointer (some ⟨X, 0, none⟩), vu] w (SetC X t F (setL t.l up) w) := by
  obtain ⟨v, hX, hO, hF⟩ := h
  have HF : Hid (∀ b, F b ↔ (b = X ∨ v.ownBlock = some b)) := hid hF
  obtain ⟨ua, uc, rfl, -, -⟩ := rg_is hup
  have hll : t.l.length ≤ 64 := by have := g.len; have := g.n2; omega
  have HKs : Hid (∀ x ∈ t.l, x.r.key.size ≤ 1000) := hid (fun x hx => by
    have h9 := (g.may x hx).1
    unfold mayR keyMay at h9
    simp only [Bool.and_eq_true, decide_eq_true_eq] at h9
    have := h9.1.1.2
    omega)
  obtain ⟨n, l⟩ := t
  simp only at hll HKs hX hO
  have hAZ := at_new w #[.slice ua up.length uc] 36
  have hK1 := kept_alloc (kept_refl w) (.cells #[.slice ua up.length uc] 36)
  obtain ⟨w1, hw1⟩ : ∃ w1, w.alloc (.cells #[.slice ua up.length uc] 36) = w1 := ⟨_, rfl⟩
  obtain ⟨Z, hZ⟩ : ∃ Z, w.heap.size = Z := ⟨_, rfl⟩
  rw [hw1, hZ] at hAZ
  rw [hw1] at hK1
  have hX1 := at_kept hX hK1
  have hO1 := og_stays hO hK1
  have hR1 := rg_kept encU_ok hup hK1
  have c1 : w1.cell? ⟨X, 1, none⟩ = some v := at_cell hX1 1
  have df : ∀ j, w1.frozen? ⟨X, j, none⟩ = false := at_frozen hX1
  obtain ⟨G, hG1, hG2⟩ := own_pick v w1.heap.size
  have hZG : Z ≠ G := by
    rintro rfl
    rcases hG2 with e | ⟨_, e⟩
    · obtain ⟨cs, hc⟩ := own_typeH hO1 e
      exact at_ne hc hAZ (by decide) rfl
    · have := at_lt hAZ; omega
  have hXG : X ≠ G := by
    rintro rfl
    rcases hG2 with e | ⟨_, e⟩
    · exact ho_ne hX1 hO1 _ e rfl
    · have := at_lt hX1; omega
  have hXZ : X ≠ Z := at_ne hX1 hAZ (by decide)
  have hUG : 0 < up.length → ∀ b, (Value.slice ua up.length uc).ownBlock = some b → b ≠ G := fun hp b hb e => by
    subst e
    rcases hG2 with e | ⟨_, e⟩
    · exact hn hp b hb ((HF.out b).2 (.inr e))
    · obtain ⟨a', c', e1, -, -, -, h4⟩ := hup
      obtain ⟨q, o, e2, hc⟩ := h4 hp
      injection e1 with e1
      rw [e1, e2] at hb
      injection hb with hb
      have h1 : up[0]? = some (up[0]'hp) := List.getElem?_eq_getElem hp
      have h2 := gcell_lt (hc 0 _ 0 _ h1 rfl)
      have h3 := hK1.2
      have h5 : q = b := hb
      omega
  have hp : PredOk 40 (.pointer (some ⟨Z, 0, none⟩)) (fun q => allH up q) l G w1 := fun u q hq ht => setclo_any q (HKs.out q hq) up hu _ Z 36 u (at_turn hAZ ht hZG) (rg_turn hR1 ht hUG)
  have hD := del_any entersS (by omega) v w1 hO1 hG1 hp
  have hmf : ∀ (fn : Fn) (first cap : Array Value) (w : World), (Instr.makeFunc fn first cap).run Try.prog w = .ok (.func fn first cap) w := fun _ _ _ _ => rfl
  have HX1 := hid hX1
  have HK1 := hid hK1
  have HG : Hid (X ≠ G ∧ (v.ownBlock = some G ∨ (v.ownBlock = none ∧ w1.heap.size ≤ G))) := hid ⟨hXG, hG2⟩
  obtain ⟨va, vc, rfl, -, -⟩ := og_is encH_ok hO
  have hsl := setL_len l up
  generalize hm : l.length = m at *
  have HM := hid hm
  clear hX hO hF hAZ hK1 hX1 hO1 hZG hXG hXZ hp hG1 hG2 hu hup hn hR1 hUG hm g
  go_enter Try.func19, Try.ntmps19
  go_wp2_with fail
  clear hw1 hZ c1 df
  refine hD.mono ?_
  rintro e w2 ⟨v2, rfl, o2, ob2, t2⟩
  have ho2 : Og encH 9 61 w2 0 v2 (setL l up) := o2
  have hX2 := at_turn HX1.out t2 HG.out.1
  have d2 : w2.cell? ⟨X, 1, none⟩ = some (.slice va m vc) := at_cell hX2 1
  have df : ∀ j, w2.frozen? ⟨X, j, none⟩ = false := at_frozen hX2
  have hX3 : At (w2.setCell ⟨X, 1, none⟩ v2) X #[.int .i64 (n : Int), v2] 70 := at_set hX2 1 v2
  have hT3 : Tn F w (w2.setCell ⟨X, 1, none⟩ v2) := by
    refine tn_comp (tn_comp (tn_kept HK1.out) (tn_turn t2) (fun b hb => ?_)) (tn_set w2 X 1 v2) (fun b hb => .inl ((HF.out b).2 (.inl hb)))
    subst hb
    rcases HG.out.2 with e | ⟨_, e⟩
    · exact .inl ((HF.out b).2 (.inr e))
    · exact .inr (by have := HK1.out.2; omega)
  have HS3 := hid (ho_store hX2 ho2)
  have HD3 : Hid (Sd F w (fun b => b = X ∨ v2.ownBlock = some b) (w2.setCell ⟨X, 1, none⟩ v2)) := hid ⟨hT3, fun b hb => by
    rcases hb with rfl | hb
    · exact .inl ((HF.out _).2 (.inl rfl))
    · exact .inl ((HF.out b).2 (.inr (by rw [← ob2]; exact hb)))⟩
  obtain ⟨a2, c2, e2, -, -⟩ := og_is encH_ok ho2
  have d3 : (w2.setCell ⟨X, 1, none⟩ v2).cell? ⟨X, 1, none⟩ = some (.slice a2 (setL l up).length c2) := by rw [← e2]; exact at_cell hX3 1
  obtain ⟨w3, hw3⟩ : ∃ w3, w2.setCell ⟨X, 1, none⟩ v2 = w3 := ⟨_, rfl⟩
  rw [hw3] at d3 HS3 HD3
  generalize hs : (setL l up).length = s at *
  have HSl := hid hs
  obtain ⟨d, hd⟩ : ∃ d, m - s = d := ⟨_, rfl⟩
  have hsub : (m : Int) - (s : Int) = (d : Int) := by omega
  have hdl : d ≤ 64 := by omega
  have HDd := hid hd
  clear o2 ho2 ob2 t2 hX2 hX3 hT3 hD HX1 hs hd
  subst e2
  go_wp2_with fail
  go_ret
  exact set_end (by show (d : Int) = _; rw [HM.out, HSl.out, HDd.out]) HS3.out HD3.out
end Go.Proofs.Ytahgplfkgijecaa


namespace Go.Proofs.Ytahgplfkgijecaa
open Go.ChangeShapes Go.WideShapes Go.ChangeAt Go.RowKit
set_option linter.unusedVariables false

theorem hints_is : HintsIs HO where
  obj := ⟨fun h hb => ho_lt h hb, fun h hs => ho_stay h hs⟩
  new_ok := fun n w h1 h2 => new_is n w h1 h2
  new_bad := fun n w h => new_no n w h
  add := fun X s F r w h g hr hm => add_is X s F r w h g hr hm
  ack := fun X s F key st node w h g hk hs h1 h2 => ack_is X s F key st node w h g h1 h2
  missing := fun X s F up v w h g hu hl hr => missing_is X s F up v w h g hu hr
  settle := fun X s F up v w h g hu hl hr hn => settle_is X s F up v w h g hu hr hn
  all := fun X s F w h g => all_is X s F w h g
  len := fun X s F w h g => len_is X s F w h
  add_nil := fun r w hr hk => add_none r w
  ack_nil := fun key st node w hk => ack_none key st node w
  missing_nil := fun up v w hl hr => missing_none v w
  settle_nil := fun up v w hl hr => settle_none up v w hr
  all_nil := fun w => all_none w
  len_nil := fun w => len_none w
theorem plays_all {v : Value} (n : Int) (l : List Opn) (w : World) (wn : (Lit.int .i64 n).wf = true) (h : Rg encO 11 w v l) (hl : ∀ o ∈ l, OpOk w o) : Calls Try.prog 3 #[.int .i64 n, v] w fun e w' => e = .returned (.bool true) ∧ Kept w w' := plays_walk hints_is n l v w hl h
theorem hkept_all {v : Value} (r : R) (l : List Opn) (w : World) (hr : r.ok) (h : Rg encO 11 w v l) (hl : ∀ o ∈ l, OpOk w o) : Calls Try.prog 4 #[.agg #[.string r.key, .int .u64 r.s.p, .int .u32 r.s.l, .int .u8 r.s.n, .int .u8 r.kind, .int .u32 r.flags, .int .u64 r.exp, .string r.body], v] w fun e w' => e = .returned (.bool true) ∧ Kept w w' := hkept_of hints_is r l w hr h hl
theorem bounded_all {v : Value} (n : Int) (l : List Opn) (w : World) (wn : (Lit.int .u8 n).wf = true) (h : Rg encO 11 w v l) (hl : ∀ o ∈ l, OpOk w o) : Calls Try.prog 5 #[.int .u8 n, v] w fun e w' => e = .returned (.bool true) ∧ Kept w w' := bounded_of hints_is n l w wn h hl
theorem nil_all {v : Value} (r : R) (node : Int) (l : List Int) (w : World) (hr : r.ok) (wn : (Lit.int .u8 node).wf = true) (h : Rg encU 1 w v l) (hl : ∀ x ∈ l, 0 ≤ x ∧ x < 256) : Calls Try.prog 6 #[.agg #[.string r.key, .int .u64 r.s.p, .int .u32 r.s.l, .int .u8 r.s.n, .int .u8 r.kind, .int .u32 r.flags, .int .u64 r.exp, .string r.body], .int .u8 node, v] w fun e w' => e = .returned (.bool true) ∧ Kept w w' := nil_of hints_is r node l w hr wn h
theorem told_all2 {v u : Value} (l : List Opn) (up : List Int) (w : World) (h : Rg encO 11 w v l) (hl : ∀ o ∈ l, OpOk w o) (hu : Rg encU 1 w u up) (hn : ∀ x ∈ up, 0 ≤ x ∧ x < 256) : Calls Try.prog 7 #[v, u] w fun e w' => e = .returned (.bool true) ∧ Kept w w' := told_of hints_is l up w h hl hu hn
end Go.Proofs.Ytahgplfkgijecaa
