/- The keys of a map of nodes as the library hands them out: each once, in some order. Nodes collected from whatever hands them out, and sorted. -/
import Derived.Test.YtgmcjnhijgnadaaY7
import Derived.Test.YtgmcjnhijgnadaaGDom
import Derived.RangeFuncNested
import Derived.RangeFuncBound
import Derived.RangeFuncCalls
import Derived.RangeFuncLeaves
import Derived.RangeFuncFrom
import Derived.Shelf.Abstract
import Derived.Shelf.RegionOpen
import Derived.WalkKit
import Derived.OwnWalkIn
import Derived.TacticsInMore
import Derived.LoopNIn
import Derived.LoopIn
import Derived.Sort.MapsRangeIn
import Derived.Maps.OwnIn
import Derived.Maps.AppendAt

namespace Go.Proofs.Ytgmcjnhijgnadaa
open Go.ChangeShapes Go.WideShapes Go.ChangeAt Go.RowKit Go.Maps Go.Shelf Go.Proofs
attribute [local go_sem] Oper.semAt_some
set_option linter.unusedVariables false
set_option linter.unusedSimpArgs false
set_option maxRecDepth 100000

theorem klU_key (x y : Int) : Lit.sameKey (klU x) (klU y) = decide (x = y) := by
  unfold klU
  simp [Lit.sameKey]
/- What has come: no key twice; those that the map has and that are no longer to come. -/
def Cd (D0 : DataW Unit) (left : Lit → Bool) (ss : List Int) : Prop := ss.Nodup ∧ ∀ x, x ∈ ss ↔ (has D0 (klU x) = true ∧ left (klU x) = false)
theorem cd_start (D0 : DataW Unit) : Cd D0 (has D0) [] := ⟨List.nodup_nil, fun x => by cases has D0 (klU x) <;> simp⟩
theorem cd_step {D0 : DataW Unit} {left : Lit → Bool} {ss : List Int} (h : Cd D0 left ss) {x : Int} {y : DataW Unit} (hlk : left (klU x) = true) (hat : ∀ zd, D0.atKey (klU x) zd = y) : Cd D0 (fun z => left z && !z.sameKey (klU x)) (ss ++ [x]) := by
  have hhas : has D0 (klU x) = true := has_true_of_atKey hat
  have hnew : x ∉ ss := fun hx => by have := ((h.2 x).1 hx).2; rw [hlk] at this; cases this
  refine ⟨List.nodup_append.2 ⟨h.1, by simp, fun a ha b hb => by simp at hb; subst hb; exact fun e => hnew (e ▸ ha)⟩, fun y => ?_⟩
  show _ ↔ has D0 (klU y) = true ∧ (left (klU y) && !Lit.sameKey (klU y) (klU x)) = false
  rw [klU_key]
  by_cases hy : y = x
  · subst hy; simp [hhas]
  · simp [h.2 y, hy]
def KS (D0 : DataW Unit) (ss : List Int) : Prop := ss.Nodup ∧ ∀ x, x ∈ ss ↔ has D0 (klU x) = true
set_option maxHeartbeats 1000000 in
theorem keys1_any (F : Fence) (n : Nat) (h10 : F.fn 41) (hro : F.round = none) (hn : 1 ≤ n) (l Bm b nn : Nat) (D0 : DataW Unit) {R : Value → Option (DataW Unit × List MemPlace)} (J Jx : List Int → World → Prop)
    (hY : ∀ pre x W, J pre W → pre.length < Maps.size D0 → YieldAt F (n - 1) Try.prog l #[.int .u8 x] W fun e W' =>
      (e = .returned (.bool true) ∧ J (pre ++ [x]) W' ∧ KeepsWalks W W') ∨ (e = .returned (.bool false) ∧ Jx (pre ++ [x]) W'))
    (W : World) (hJ : AbidesFrom W.heap.size J) (hm : W.cell? ⟨Bm, 0, none⟩ = some (.map (some b))) (hown : W.ownsMap Try.prog 5 R b nn D0) (h0 : J [] W) :
    CallsIn F n Try.prog 41 #[.func (.yield l) #[] #[], .pointer (some ⟨Bm, 0, none⟩)] W fun e W' => (∃ v, e = .returned v) ∧
      ((∃ ss : List Int, KS D0 ss ∧ J ss W') ∨ (∃ pre : List Int, True ∧ Jx pre W')) := by
  refine callsIn_of_wp Try.func41 rfl h10 ?_ hro
  simp only [Try.ntmps41, List.size_toArray, List.length_cons, List.length_nil, Nat.reduceAdd, Nat.reduceSub, Array.replicate_succ, Array.replicate_zero, List.push_toArray, List.append_toArray, List.nil_append, List.cons_append]
  gi_wp2_with (first
    | (gi_at_range; refine wpListIn_range_own _ rfl _ 91 rfl 5 95 keyed5 Try.underlying91 _ b nn _ rfl hown ?_; intro w0 hrg0 hg0 hs0)
    | gi_in)
  go_frame
  gi_loopw [3] (fun _ wr => ∃ (left : Lit → Bool) (cnt : Nat) (ss : List Int), wr.ranges Try.prog 5 R b W.heap.size nn D0 left cnt ∧ ss.length + cnt ≤ Maps.size D0 ∧ Cd D0 left ss ∧ J ss wr)
    (fun _ wr => wr.rangeLeft b W.heap.size)
  case atStart =>
    exact ⟨_, _, [], hrg0, by simp, cd_start D0, hJ [] W w0 none h0 hg0 (fun r e => by cases e)⟩
  case round =>
    obtain ⟨left, cnt, ss, hrg, hcs, hC, hJs⟩ := hrel
    gi_wp2_with (first
      | (gi_at_next; refine wpListIn_next_ranges _ rfl _ rfl 5 keyed5 R (fun x : Int => Value.int .u8 x) id (fun key kl hk => by obtain ⟨x, hx, _⟩ := klU_inv hk; exact ⟨x, hx⟩) (fun v _ _ => ⟨v, rfl⟩) b W.heap.size nn _ _ _ rfl hrg ?_ ?_)
      | gi_in)
    · intro hc0 hl0
      gi_wp2
      go_end0
      exact ⟨⟨_, rfl⟩, .inl ⟨ss, ⟨hC.1, fun x => by rw [hC.2 x, hl0]; simp⟩, hJs⟩⟩
    · intro x c kl yd yp w2 cnt2 hkey hlk hv hat hrg2 hlt hg2 hs2 hen
      obtain ⟨x', ex, rfl, _⟩ := klU_inv hkey
      obtain rfl : x = x' := by injection ex
      have hJ2 : J ss w2 := hJ ss wr w2 (some W.heap.size) hJs hg2 (fun r e => by cases e; exact ⟨Nat.le_refl _, hrg.iter_walk⟩)
      obtain ⟨fn, tmps, assign, body, hy, hR⟩ := hY ss x w2 hJ2 (by omega)
      clear hs2
      gi_wp2
      refine hR.mono ?_
      have hC2 := cd_step hC hlk hat
      rintro e W3 (⟨rfl, hJ3, hk3⟩ | ⟨rfl, hJx3⟩)
      · gi_wp2
        have hrg3 := hrg2.of_walks hk3
        go_roundw
        case rel => exact ⟨_, cnt2, ss ++ [x], hrg3, by simp; omega, hC2, hJ3⟩
        case measure => rw [hrg3.left_eq, hrg.left_eq]; exact hlt
      · gi_wp2
        refine bodyPost_ret (results_none rfl _ _ _) rfl ?_
        exact ⟨⟨_, rfl⟩, .inr ⟨ss ++ [x], trivial, hJx3⟩⟩
theorem keys_stops (F : Fence) (n : Nat) (h10 : F.fn 41) (hro : F.round = none) (hn : 1 ≤ n) (Bm b nn : Nat) (D0 : DataW Unit) {R : Value → Option (DataW Unit × List MemPlace)} (w : World) (hBm : Bm < w.heap.size)
    (hm : w.cell? ⟨Bm, 0, none⟩ = some (.map (some b))) (hown : w.ownsMap Try.prog 5 R b nn D0) :
    SeqStops F n Try.prog 41 #[.pointer (some ⟨Bm, 0, none⟩)] (fun x : Int => Value.int .u8 x) (KS D0) (fun _ => True) (Maps.size D0) w := fun l J Jx W hW hJ _ hY h0 => by
  have hown' : W.ownsMap Try.prog 5 R b nn D0 := by
    have hbl := hown.lt
    obtain ⟨es, clock, hb, Ft, hs, hD⟩ := hown
    exact ⟨es, clock, (hW.block b hbl).trans hb, Ft, hs, hD⟩
  exact keys1_any F n h10 hro hn l Bm b nn D0 J Jx hY W hJ ((hW.cell (p := ⟨Bm, 0, none⟩) hBm).trans hm) hown' h0
theorem keys_any (m : Nat) (w : World) : Calls Try.prog 31 #[.map (some m)] w fun e w' => e = .returned (.func (.func 41) #[] #[.pointer (some ⟨w.heap.size, 0, none⟩)]) ∧ w' = w.alloc (.cells #[.map (some m)] 91) := by
  go_enter Try.func31, Try.ntmps31
  go_wp2
  go_ret
  exact ⟨rfl, rfl⟩
end Go.Proofs.Ytgmcjnhijgnadaa


namespace Go.Proofs.Ytgmcjnhijgnadaa
open Go.ChangeShapes Go.WideShapes Go.ChangeAt Go.RowKit Go.Maps Go.Shelf Go.Proofs
attribute [local go_sem] Oper.semAt_some
set_option linter.unusedVariables false
set_option linter.unusedSimpArgs false
set_option maxRecDepth 100000

set_option maxHeartbeats 2000000 in
theorem appseq_any (F : Fence) (n : Nat) (h11 : F.fn 45) (hro : F.round = none) (hn : 2 ≤ n) (g : Nat) (lb : Array Value) (hFg : F.fn g) (eg : ∀ args w, (callFunc g args).run Try.prog w = .ok (.enter g args) w)
    (S Sp : List Int → Prop) (N : Nat) (hN : N ≤ 256) (w : World) (hseq : SeqStops F (n - 1) Try.prog g lb (fun x : Int => Value.int .u8 x) S Sp N w) :
    CallsIn F n Try.prog 45 #[.slice none 0 0, .func (.func g) #[] lb] w fun e w' => ∃ (v : Value) (ss : List Int), e = .returned v ∧ S ss ∧ w'.ownsRow w.heap.size 5 1 v ss.length (ss.map (Value.int .u8)) ∧ Below w.heap.size w w' ∧ ss.length ≤ N := by
  have h1 : 1 ≤ n := by omega
  obtain ⟨i0, hi, hz0, hz1, hz2⟩ := info_parts infoU
  refine callsIn_of_wp_marks Try.func45 rfl h11 ?_ hro
  simp only [Try.ntmps45, List.size_toArray, List.length_cons, List.length_nil, Nat.reduceAdd, Nat.reduceSub, Array.replicate_succ, Array.replicate_zero, List.push_toArray, List.append_toArray, List.nil_append, List.cons_append]
  gi_wp2
  have bO := Boxed.new w 27 (.slice none 0 0)
  have hB0 : Below w.heap.size w (w.alloc (.cells #[.slice none 0 0] 27)) := (Below.refl _ w).alloc (Nat.le_refl _) _
  have hseq' := hseq.later hB0
  refine wpIn_rangeFunc_ownF (Kp := KeepsWalks) hro h1 (gf := g) (lb := lb) rfl hFg eg (encs := fun x : Int => #[Value.int .u8 x]) (S := S) (Sp := Sp) (N := N)
    hseq' walksK_t (walksK_b) (Below.refl _ _) (fun _ => rfl)
    (fun pre W => (∃ v, Boxed W w.heap.size 27 v ∧ W.ownsRow w.heap.size 5 1 v pre.length (pre.map (Value.int .u8)) ∧ True) ∧ Below w.heap.size w W ∧ pre.length ≤ N)
    (fun _ _ _ => False)
    (OwnFrom.and (Own.from (holdsRow_own w.heap.size w.heap.size 27 5 1 (fun pre : List Int => pre.length) (fun pre => pre.map (Value.int .u8)) (fun pre v => True)) _) (OwnFrom.and (ownFrom_below (Nat.le_refl _) (by simp)) (ownFrom_pure _ (fun pre : List Int => pre.length ≤ N))))
    (fun _ _ _ _ _ hs _ _ => hs)
    ⟨⟨_, bO, World.ownsRow_nil _ _ _ _, trivial⟩, hB0, Nat.zero_le _⟩
    (fun x => { tmps := #[.slice none 0 0, .func (.func g) #[] lb, .pointer (some ⟨w.heap.size, 0, none⟩), undef, .slice none 0 0, .int .u8 x, .func (.func g) #[] lb, .int .u8 x, undef, undef, undef, undef, undef], defers := [] }) ?assign ?body ?done ?stop
  case assign =>
    intro l x W K hK
    gi_wp2
    exact hK
  case body =>
    rintro l pre x W ⟨⟨v, hv, hrow, -⟩, hB, hle⟩ hlt
    have hc := hv.cell
    have hmx : N ≤ maxLen := by unfold maxLen; omega
    gi_wp2_with (gi_at_builtin; refine wpListIn_append_own _ rfl _ _ 27 rfl w.heap.size 5 i0 (.int .u8 0) 1 1 Try.underlying27 hi hz0 hz1 hz2 rfl (by decide) _ _ _ rfl (hrow.alloc _) ⟨W.heap.size, 0, none⟩ 1 1 [.int .u8 x] rfl rfl (cell_one_new _ _ _) (by simp [Value.oneCell']) (by omega) (by omega) (by have := hB.size; simp; omega) ?_; intro v' w1 hown' hgrow _; obtain ⟨g', cap', rfl⟩ := ownsRow_succ hown'; obtain ⟨hv1, hv2, hr2, hk2, hb2⟩ := hv.appended (by decide) hrow hB.size (Nat.le_refl _) hown' hgrow; have hc1 := hv1.cell; have hf1 := hv1.frozen)
    exact ⟨hk2, hk2.walks, ⟨_, hv2, by simpa using hr2, trivial⟩, hB.trans hb2, by simp; omega⟩
  case done =>
    rintro D ys W hD hS ⟨⟨v, hv, hrow, -⟩, hB, hle⟩ hK
    have hc := hv.cell
    gi_wp2
    refine ⟨by simp, .inl ⟨_, _, rfl, run_takeDeferred hK, ?_⟩⟩
    exact ⟨_, results_tmp rfl _ _ _, v, ys, rfl, hS, ownsRow_putObj hrow _ hK rfl, hB.trans (belowK_b (w := w) (Nat.le_refl _) W D _ _ (by simp at hD; omega) hK rfl rfl), hle⟩
  case stop =>
    rintro D c pre W _ _ h _
    exact h.elim
/- The keys of a map, collected. -/
theorem flatU (ss : List Int) : ss.map (Value.int .u8) = flatE encU ss := by
  unfold flatE
  induction ss with
  | nil => rfl
  | cons x xs ih => rw [List.map_cons, List.flatMap_cons, ih]; rfl
theorem kept_bel {w w' : World} (h : Below w.heap.size w w') : Kept w w' := kept_of h.os h.output h.size (fun i hi => h.block i hi)
def CollC (S : List Int → Prop) (w : World) (e : Ending) (w' : World) : Prop := ∃ v ss, e = .returned v ∧ S ss ∧ Og encU 1 5 w' w.heap.size v ss ∧ Kept w w' ∧ ss.length ≤ 256
theorem appseq_keys {Bm b nn : Nat} {D0 : DataW Unit} {R : Value → Option (DataW Unit × List MemPlace)} (w : World) (hBm : Bm < w.heap.size) (hm : w.cell? ⟨Bm, 0, none⟩ = some (.map (some b))) (hown : w.ownsMap Try.prog 5 R b nn D0) (hN : Maps.size D0 ≤ 256) :
    Calls Try.prog 45 #[.slice none 0 0, .func (.func 41) #[] #[.pointer (some ⟨Bm, 0, none⟩)]] w (CollC (KS D0) w) := by
  refine ((callsIn_wide (n := 6)).1 (appseq_any Fence.wide 6 trivial rfl (by omega) 41 #[.pointer (some ⟨Bm, 0, none⟩)] trivial (enters_of Try.func41 (by kernel_rfl) rfl) (KS D0) (fun _ => True) (Maps.size D0) hN w (keys_stops Fence.wide _ trivial rfl (by omega) Bm b nn D0 w hBm hm hown))).mono ?_
  rintro e w' ⟨v, ss, h1, h2, h3, h4, h5⟩
  rw [flatU] at h3
  exact ⟨v, ss, h1, h2, h3, kept_bel h4, by omega⟩
theorem collect_keys {Bm b nn : Nat} {D0 : DataW Unit} {R : Value → Option (DataW Unit × List MemPlace)} (w : World) (hBm : Bm < w.heap.size) (hm : w.cell? ⟨Bm, 0, none⟩ = some (.map (some b))) (hown : w.ownsMap Try.prog 5 R b nn D0) (hN : Maps.size D0 ≤ 256) :
    Calls Try.prog 39 #[.func (.func 41) #[] #[.pointer (some ⟨Bm, 0, none⟩)]] w (CollC (KS D0) w) := by
  have H := appseq_keys w hBm hm hown hN
  clear hm hown hN hBm
  go_enter Try.func39, Try.ntmps39
  go_wp2_with fail
  refine H.mono ?_
  rintro e w1 ⟨v, ss, rfl, h⟩
  clear H
  go_wp2_with fail
  go_ret
  exact ⟨v, ss, rfl, h⟩
/- A row of nodes in the order of the nodes. -/
def Up (xs : List Int) : Prop := xs.Pairwise (fun x y => x < y)
def SortC (D0 : DataW Unit) (w : World) (e : Ending) (w' : World) : Prop := ∃ v xs, e = .returned v ∧ (Up xs ∧ ∀ x, x ∈ xs ↔ has D0 (klU x) = true) ∧ Og encU 1 5 w' w.heap.size v xs ∧ Kept w w'
theorem og_high {α : Type} {enc : α → List Value} {c T B B' : Nat} {w : World} {v : Value} {xs : List α} (h : Og enc c T w B v xs) (hb : ∀ g, v.ownBlock = some g → B' ≤ g) : Og enc c T w B' v xs := by
  refine ⟨h.1, ?_⟩
  rcases h.2 with hn | ⟨g, cap, cur, rfl, hg, rest⟩
  · exact .inl hn
  · exact .inr ⟨g, cap, cur, rfl, hb g rfl, rest⟩
def nthK (ss : List Int) (k : Nat) : Int := ss[k]?.getD 0
theorem nthK_row (ss : List Int) : ss = rowD ss.length (nthK ss) := rowD_all rfl (fun k hk => by unfold nthK; rw [List.getElem?_eq_getElem hk]; rfl)
theorem nthK_inj {ss : List Int} (h : ss.Nodup) : UInj ss.length (nthK ss) := fun i j hi hj e => by
  unfold nthK at e
  rw [List.getElem?_eq_getElem hi, List.getElem?_eq_getElem hj] at e
  have hp := List.pairwise_iff_getElem.1 h
  by_cases h1 : i < j
  · exact absurd e (hp i j hi hj h1)
  · by_cases h2 : j < i
    · exact absurd e.symm (hp j i hj hi h2)
    · omega
theorem row_in {m : Nat} {D : Nat → Int} {x : Int} : x ∈ rowD m D ↔ ∃ k, k < m ∧ D k = x := by
  unfold rowD
  rw [List.mem_map]
  constructor
  · rintro ⟨k, hk, e⟩
    exact ⟨k, List.mem_range.1 hk, e⟩
  · rintro ⟨k, hk, e⟩
    exact ⟨k, List.mem_range.2 hk, e⟩
theorem row_same {m : Nat} {D E : Nat → Int} (h : USm 0 m D E) (x : Int) : x ∈ rowD m E ↔ x ∈ rowD m D := by
  rw [row_in, row_in]
  constructor
  · rintro ⟨k, hk, e⟩
    obtain ⟨q, _, hq, hE⟩ := usm_in h (Nat.zero_le k) hk
    exact ⟨q, hq, by rw [← hE, e]⟩
  · rintro ⟨k, hk, e⟩
    obtain ⟨q, _, hq, hE⟩ := usm_from h (Nat.zero_le k) hk
    exact ⟨q, hq, by rw [← hE, e]⟩
theorem row_up {m : Nat} {D : Nat → Int} (h : UAsc 0 m D) : Up (rowD m D) := by
  unfold Up rowD
  rw [List.pairwise_map]
  refine List.Pairwise.imp_of_mem (fun {a b} ha hb hab => ?_) (List.pairwise_lt_range (n := m))
  exact h a b (Nat.zero_le _) hab (List.mem_range.1 hb)
theorem kept_trn {W w w' : World} {c : Nat} (k : Kept W w) (hc : W.heap.size ≤ c) (t : Turn c w w') : Kept W w' :=
  kept_of (t.1.trans (kept_os k)) (t.2.1.trans (kept_output k)) (Nat.le_trans k.2 t.2.2.1) (fun i hi => (t.2.2.2 i (Nat.lt_of_lt_of_le hi k.2) (by omega)).trans (kept_block k hi))
theorem sorted_any {Bm b nn : Nat} {D0 : DataW Unit} {R : Value → Option (DataW Unit × List MemPlace)} (w : World) (hBm : Bm < w.heap.size) (hm : w.cell? ⟨Bm, 0, none⟩ = some (.map (some b))) (hown : w.ownsMap Try.prog 5 R b nn D0) (hN : Maps.size D0 ≤ 256) :
    Calls Try.prog 30 #[.func (.func 41) #[] #[.pointer (some ⟨Bm, 0, none⟩)]] w (SortC D0 w) := by
  have H := collect_keys w hBm hm hown hN
  clear hm hown hN hBm
  go_enter Try.func30, Try.ntmps30
  go_wp2_with fail
  refine H.mono ?_
  rintro e w1 ⟨v, ss, rfl, hS, ho, hk, hl⟩
  clear H
  have HO := hid ho
  have HS := hid hS
  have HK := hid hk
  rcases ho.2 with ⟨rfl, hn⟩ | ⟨g, cap, cur, rfl, hb, hg, -⟩
  · have C := sort8_nil w1
    clear ho hS hk
    go_wp2_with fail
    refine C.mono ?_
    rintro e w2 ⟨rfl, e2⟩
    have e3 := e2.symm
    subst e3
    clear C e2
    go_wp2_with fail
    go_ret
    have : ss = [] := List.eq_nil_of_length_eq_zero hn
    subst this
    exact ⟨_, [], rfl, ⟨List.Pairwise.nil, HS.out.2⟩, HO.out, HK.out⟩
  · have hA : Ar w1 g ss.length cap (nthK ss) := by
      unfold Ar
      rw [← nthK_row]
      exact og_low HO.out (Nat.zero_le _)
    have C := sort8 w1 hA hl (nthK_inj HS.out.1)
    have HB := hid hb
    clear ho hS hk hA hg hb
    go_wp2_with fail
    refine C.mono ?_
    rintro e w2 ⟨rfl, ⟨E, hE, hsm, hasc⟩, ht⟩
    have HE := hid hE
    have HM := hid hsm
    have HU := hid hasc
    have HT := hid ht
    clear C hE hsm hasc ht
    go_wp2_with fail
    go_ret
    refine ⟨_, rowD ss.length E, rfl, ⟨row_up HU.out, fun x => ?_⟩, og_high HE.out (fun q hq => ?_), kept_trn HK.out HB.out HT.out⟩
    · rw [row_same HM.out, ← nthK_row]
      exact HS.out.2 x
    · injection hq with hq
      rw [← hq]
      exact HB.out
end Go.Proofs.Ytgmcjnhijgnadaa
