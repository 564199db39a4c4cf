/- Rows of numbers in memory; the contracts of Order, and of the reference's Same, Without and Use. The rows have at most 4096 numbers. -/
import Derived.Test.YtnpfjfolpfokoaaNew
import Derived.Deep.Upon
import Derived.Laws.AppendOwn
import Derived.Maps.AppendAt
import Derived.Deep.DeepMust
namespace Go.Proofs.Ytnpfjfolpfokoaa
open Go.ChangeShapes Go.WideShapes Go.ChangeAt Go.RowKit
set_option linter.unusedVariables false
set_option linter.unusedSimpArgs false

def iv (xs : List Int) : List Value := xs.map (Value.int .i64)
def cs (l : List Nat) : List Int := l.map Int.ofNat
theorem iv_len (xs : List Int) : (iv xs).length = xs.length := by unfold iv; simp
theorem cs_len (l : List Nat) : (cs l).length = l.length := by unfold cs; simp
/- A row that is read. -/
def Rw (w : World) (v : Value) (xs : List Int) : Prop :=
  ∃ a c, v = .slice a xs.length c ∧ (0 < xs.length → ∃ g o, a = some ⟨g, o, none⟩ ∧ ∀ i x, xs[i]? = some x → w.cell? ⟨g, o + i, none⟩ = some (.int .i64 x))
/- A row of one's own. -/
def OwnI (w : World) (B : Nat) (v : Value) (xs : List Int) : Prop := w.ownsRow B 3 1 v xs.length (iv xs)
section
variable {w w' : World} {B R n : Nat} {v : Value} {xs : List Int} {C D : Nat → Nat}
theorem cell_lt {b o : Nat} {v : Value} (h : w.cell? ⟨b, o, none⟩ = some v) : b < w.heap.size := by
  unfold World.cell? at h
  cases hb : w.heap[b]? with
  | none => simp [hb] at h
  | some x => exact (Array.getElem?_eq_some_iff.1 hb).1
theorem rw_kept (h : Rw w v xs) (k : Kept w w') : Rw w' v xs := by
  obtain ⟨a, c, rfl, h⟩ := h
  refine ⟨a, c, rfl, fun hp => ?_⟩
  obtain ⟨g, o, rfl, hc⟩ := h hp
  exact ⟨g, o, rfl, fun i x hx => (kept_cell k (cell_lt (hc i x hx))).trans (hc i x hx)⟩
theorem own_kept (h : OwnI w B v xs) (k : ∀ g cur, v.ownBlock = some g → At w g cur 3 → w'.heap[g]? = w.heap[g]?) : OwnI w' B v xs := by
  refine ⟨h.1, ?_⟩
  rcases h.2 with hn | ⟨g, cap, cur, rfl, hb, hg, rest⟩
  · exact .inl hn
  · exact .inr ⟨g, cap, cur, rfl, hb, (k g cur rfl hg).trans hg, rest⟩
theorem own_stays (h : OwnI w B v xs) (k : Kept w w') : OwnI w' B v xs := own_kept h (fun g cur _ ha => kept_block k (at_lt ha))
theorem own_low {B' : Nat} (h : OwnI w B v xs) (hb : B' ≤ B) : OwnI w B' v xs := by
  refine ⟨h.1, ?_⟩
  rcases h.2 with hn | ⟨g, cap, cur, rfl, hg, rest⟩
  · exact .inl hn
  · exact .inr ⟨g, cap, cur, rfl, Nat.le_trans hb hg, rest⟩
/- It stands while a list turns. -/
theorem own_turn (h : OwnI w B v xs) (r : RowL w R n C D) (k : Turn R w w') : OwnI w' B v xs :=
  own_kept h (fun g cur _ ha => by
    obtain ⟨cs, hr, _⟩ := r
    exact k.2.2.2 g (at_lt ha) (at_ne ha hr (by decide)))
theorem own_good {X : Nat} {l : List Nat} (h : OwnI w B v xs) (g : Good w X R n l) (k : Turn R w w') : OwnI w' B v xs := by
  obtain ⟨_, _, C, D, hL, _⟩ := g
  exact own_turn h hL.2 k
theorem rw_own (h : OwnI w B v xs) : Rw w v xs := by
  rcases h.2 with ⟨rfl, hn⟩ | ⟨g, cap, cur, rfl, hb, hg, rest⟩
  · exact ⟨none, 0, by rw [hn], fun hp => absurd hp (by omega)⟩
  · refine ⟨_, cap, rfl, fun _ => ⟨g, 0, rfl, fun i x hx => ?_⟩⟩
    have := World.ownsRow.cells h (g := g) rfl i (.int .i64 x) (by unfold iv; simp [hx])
    rw [← this]
    rcases Nat.eq_zero_or_pos i with h0 | h0
    · subst h0; simp [Addr.add]
    · rw [show (⟨g, 0, none⟩ : Addr).add i = ⟨g, 0 + i, none⟩ by simp [Addr.add]; omega]
theorem own_nil (w : World) (B : Nat) : OwnI w B (.slice none 0 0) [] := World.ownsRow_nil w B 3 1
/- A row as it is built. -/
theorem own_built (w : World) (B : Nat) (hB : B ≤ w.heap.size) (xs : List Int) (hm : xs.length ≤ 4096) : OwnI (w.alloc (.cells (iv xs).toArray 3)) B (.slice (some ⟨w.heap.size, 0, none⟩) xs.length xs.length) xs := by
  refine ⟨by rw [iv_len, Nat.mul_one], .inr ⟨w.heap.size, xs.length, _, rfl, hB, at_new w _ 3, Nat.le_refl _, by unfold maxLen; omega, by simp [iv_len], ?_⟩⟩
  have h1 : xs.length * 1 = (iv xs).length := by rw [iv_len, Nat.mul_one]
  rw [h1]
  simp
end
theorem info3 : (Try.prog.info? 3).map (fun i => (i.zero, i.size, i.bytes)) = some (some (.int .i64 0), 1, 8) := by kernel_rfl
theorem take_on {xs : List Int} {k : Nat} (h : k < xs.length) : xs.take (k + 1) = xs.take k ++ [xs[k]] := List.take_succ_eq_append_getElem h
theorem cell_one (w : World) (x : Value) : ∀ (j : Nat) (u : Value), ([x] : List Value)[j]? = some u → (w.alloc (.cells #[x] 3)).cell? ((⟨w.heap.size, 0, none⟩ : Addr).add j) = some u := by
  intro j u hu
  match j, hu with
  | 0, hu =>
    simp at hu
    subst hu
    exact at_cell (at_new w #[x] 3) 0
  | j + 1, hu => simp at hu
/- What Order answers and leaves. -/
def RowC (xs : List Int) (w : World) (e : Ending) (w' : World) : Prop := ∃ v, e = .returned v ∧ OwnI w' w.heap.size v xs ∧ Kept w w'
theorem own_len {w : World} {B m : Nat} {v : Value} {xs : List Int} (h : w.ownsRow B 3 1 v m (iv xs)) (e : xs.length = m) : OwnI w B v xs := by subst e; exact h
theorem iv_snoc (xs : List Int) (x : Int) : iv (xs ++ [x]) = iv xs ++ [.int .i64 x] := by unfold iv; simp
theorem cs_take {l : List Nat} {k : Nat} (h : k < l.length) (n : Nat) : cs (l.take (k + 1)) = cs (l.take k) ++ [((nth l n k : Nat) : Int)] := by
  rw [nth_lt h, List.take_succ_eq_append_getElem h]; unfold cs; rw [List.map_append]; rfl
theorem kept_grown {W w w' : World} {row : Option Nat} (h : Kept W w) (g : w.grownBy w' row) (hr : ∀ k, row = some k → W.heap.size ≤ k) : Kept W w' :=
  kept_of (g.os.trans (kept_os h)) (g.output.trans (kept_output h)) (Nat.le_trans h.2 g.size) (fun i hi => (g.block i (Nat.lt_of_lt_of_le hi h.2) (fun e => by have := hr i e.symm; omega)).trans (kept_block h hi))
def lenV : Value → Nat
  | .slice _ n _ => n
  | _ => 0
theorem own_lenV {w : World} {B : Nat} {v : Value} {xs : List Int} (h : OwnI w B v xs) : lenV v = xs.length := by
  obtain ⟨a, c, rfl, _⟩ := rw_own h
  rfl
set_option maxHeartbeats 3200000 in
theorem order_any {X R n : Nat} {l : List Nat} (w : World) (g : Good w X R n l) : Calls Try.prog 15 #[.pointer (some ⟨X, 0, none⟩)] w (RowC (cs l) w) := by
  have hlen := good_len g
  obtain ⟨h1, h2, A, C, h, r⟩ := g
  have HE := hid (fun w1 (h : Lst w1 X R n A C) => end_any h2 w1 h)
  have HL := hid h
  have HF := hid (ring_first_is r)
  have HN := hid (fun k (hk : k < l.length) => ring_next r hk)
  have HLow : Hid (∀ k, k < l.length → nth l n k < n) := hid (fun k hk => by rw [nth_lt hk]; exact r.low _ (List.getElem_mem hk))
  obtain ⟨c0, r0, r1, cf, rf⟩ := lst_cells h (Nat.le_refl n)
  rw [HF.out] at r1
  obtain ⟨i0, hi, hz0, hz1, hz2⟩ := info_parts (P := Try.prog) (e := 3) info3
  have HI := hid (And.intro hi (And.intro hz0 (And.intro hz1 hz2)))
  have HEnd : Hid (∀ v u, OwnI u w.heap.size v (cs l) → Kept w u → RowC (cs l) w (.returned v) u) := hid (fun v u h1 h2 => ⟨v, rfl, h1, h2⟩)
  have HBK : Hid (∀ u, Kept w u → Lst u X R n A C ∧ w.heap.size ≤ u.heap.size) := hid (fun u h => ⟨lst_kept HL.out h, h.2⟩)
  have HKG : Hid (∀ u u' row, Kept w u → u.grownBy u' row → (∀ k, row = some k → w.heap.size ≤ k) → Kept w u') := hid (fun u u' row h g hr => kept_grown h g hr)
  have HB0 : Hid (∀ q, Kept w (w.drewN q)) := hid (fun q => kept_drewN (kept_refl _) _)
  have HO0 : Hid (∀ u, OwnI u w.heap.size (.slice none 0 0) (cs (l.take 0))) := hid (fun u => own_nil u _)
  clear h r hi hz0 hz1 hz2
  generalize w.heap.size = B at *
  go_enter Try.func15, Try.ntmps15
  go_wp2_with fail
  go_quiet ((go_at_call 19; exact Calls.quiet_of_same (HE.out _ HL.out)))
  have HB1 := hid (HB0.out nq)
  clear c0 r0 r1 cf rf HL HB0
  generalize w.drewN nq = w1 at *
  go_wp2_with fail
  go_loopw [3, 4] (fun ks j wr => ∃ k : Nat, k ≤ l.length ∧ j = .int .i64 ((nth l n k : Nat) : Int) ∧ Hid (OwnI wr B ks (cs (l.take k))) ∧ Hid (Kept w wr)) (fun ks j wr => l.length - lenV ks)
  case atStart => exact ⟨0, Nat.zero_le _, rfl, hid (HO0.out _), HB1⟩
  case round =>
    obtain ⟨k, hk, rfl, HO, HK⟩ := hrel
    clear HB1 HO0
    obtain ⟨hL, hB⟩ := HBK.out _ HK.out
    have HB := hid hB
    have HM := hid (own_lenV HO.out)
    by_cases hlt : k < l.length
    · have hx := HLow.out k hlt
      have hT := cs_take hlt n
      have HNx := hid (HN.out k hlt)
      obtain ⟨c0, r0, r1, cf, rf⟩ := lst_cells hL (Nat.le_of_lt hx)
      rw [HNx.out] at r1
      have hE := HE.out _ hL
      have HLr := hid hL
      have HT := hid hT
      generalize hy : nth l n (k + 1) = y at *
      have HY := hid hy
      generalize hxx : nth l n k = x at *
      have hne : ((x : Int) == (n : Int)) = false := by simp; omega
      clear hL hB hT hy hxx c0 r0 r1 cf rf
      go_wp2_with fail
      refine hE.mono ?_
      rintro e w2 ⟨rfl, rfl⟩
      clear hE
      have HO2 := hid (World.ownsRow.alloc HO.out (.cells #[.int .i64 (x : Int)] 3))
      have HKa := hid (kept_alloc HK.out (.cells #[.int .i64 (x : Int)] 3))
      have hcl : (cs (l.take k)).length = k := by rw [cs_len]; simp; omega
      have HCL := hid hcl
      rw [hcl] at HO2
      clear hcl
      have HA : Hid (∀ v3 w3, w3.ownsRow B 3 1 v3 (k + 1) (iv (cs (l.take k)) ++ [.int .i64 (x : Int)]) → (w2.alloc (.cells #[.int .i64 (x : Int)] 3)).grownBy w3 u3.ownBlock → (w3.cell? ⟨X, 0, none⟩ = some (.slice (some ⟨R, 0, none⟩) (n + 1) (n + 1)) ∧ w3.cell? ⟨R, x * 2 + 1, none⟩ = some (.int .i64 (y : Int)) ∧ (∀ j, w3.frozen? ⟨X, j, none⟩ = false) ∧ (∀ j, w3.frozen? ⟨R, j, none⟩ = false)) ∧ Hid (OwnI w3 B v3 (cs (l.take (k + 1))) ∧ Kept w w3 ∧ lenV v3 = k + 1)) := hid (fun v3 w3 hown3 hgrow3 => by
        have HKn := HKG.out _ _ _ HKa.out hgrow3 (fun j hj => (World.ownsRow.lt HO2.out j hj).1)
        have HOn : OwnI w3 B v3 (cs (l.take (k + 1))) := by
          rw [HT.out]
          refine own_len (m := k + 1) ?_ (by simp [HCL.out])
          rw [iv_snoc]
          exact hown3
        obtain ⟨c0, r0, r1, cf, rf⟩ := lst_cells (HBK.out _ HKn).1 (Nat.le_of_lt hx)
        rw [HNx.out] at r1
        refine ⟨⟨c0, r1, cf, rf⟩, hid ⟨HOn, HKn, ?_⟩⟩
        rw [own_lenV HOn, HT.out]; simp [HCL.out])
      go_wp2_with (at_builtin; go_must (refine wpList_append_own _ rfl (.tmp 28) (.tmp 30) 28 rfl B 3 i0 (.int .i64 0) 1 8 Try.underlying28 HI.out.1 HI.out.2.1 HI.out.2.2.1 HI.out.2.2.2 rfl (by decide) _ _ _ rfl HO2.out ⟨w2.heap.size, 0, none⟩ 1 1 [.int .i64 (x : Int)] rfl rfl (cell_one _ _) (by intro u hu; simp at hu; subst hu; rfl) (by unfold maxLen; omega) (by omega) (by have := HB.out; simp; omega) ?_; intro v3 w3 hown3 hgrow3 hnil3; obtain ⟨⟨c0, r1, cf, rf⟩, HZ⟩ := HA.out v3 w3 hown3 hgrow3; clear hown3 hgrow3 hnil3))
      go_roundw
      case rel => exact ⟨k + 1, hlt, by rw [HY.out], hid HZ.out.1, hid HZ.out.2.1⟩
      case measure =>
        have h1 := HZ.out.2.2
        have h2 := HM.out
        rw [HCL.out] at h2
        simp [h1, h2]
        omega
    · have hke : k = l.length := by omega
      subst hke
      have hE := HE.out _ hL
      have hx : nth l n l.length = n := nth_ge (Nat.le_refl _)
      rw [hx]
      rw [List.take_length] at HO
      clear hL hB
      go_wp2_with fail
      refine hE.mono ?_
      rintro e w2 ⟨rfl, rfl⟩
      clear hE
      go_wp2_with fail
      go_ret
      exact HEnd.out _ _ HO.out HK.out
end Go.Proofs.Ytnpfjfolpfokoaa
