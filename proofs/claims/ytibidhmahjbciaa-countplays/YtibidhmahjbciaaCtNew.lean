/- The contract of the landed New. Names have at most 2^47 bytes. -/
import Derived.Test.YtibidhmahjbciaaCtTold
namespace Go.Proofs.Ytibidhmahjbciaa
open Go.ChangeShapes Go.WideShapes Go.ChangeAt Go.RowKit
set_option linter.unusedVariables false
set_option linter.unusedSimpArgs false
set_option maxRecDepth 100000

theorem place_app : ∀ (l m : List Ct) (q : ByteArray), placeC (l ++ m) q = if placeC l q < l.length then placeC l q else l.length + placeC m q
  | [], m, q => by simp [placeC]
  | c :: l, m, q => by
    rw [List.cons_append, placeC, placeC]
    by_cases g : sameT c.name q = true
    · simp [g]
    · simp only [if_neg g]
      rw [place_app l m q]
      by_cases e : placeC l q < l.length
      · rw [if_pos e, if_pos (by rw [List.length_cons]; omega)]
      · rw [if_neg e, if_neg (by rw [List.length_cons]; omega), List.length_cons]
        omega
theorem place_miss {l : List Ct} {q : ByteArray} (h : ¬ placeC l q < l.length) {j : Nat} {y : Ct} (hy : l[j]? = some y) : sameT y.name q = false := by
  cases e : sameT y.name q with
  | false => rfl
  | true =>
    have hj := (List.getElem?_eq_some_iff.1 hy).1
    have := place_hit hy (by omega) e
    omega
theorem plc_more {l : List Ct} {x : ByteArray} (h : ¬ placeC l x < l.length) (n : Int) : plcG (l ++ [⟨x, n⟩]) = fun q => if q = x then some (l.length : Int) else plcG l q := by
  funext q
  unfold plcG
  rw [place_app]
  have hl := place_le l q
  by_cases e : q = x
  · subst e
    rw [if_neg h, if_pos rfl, place_yes]
    simp
  · rw [if_neg e]
    have e1 : placeC [(⟨x, n⟩ : Ct)] q = 1 := by rw [place_no _ _ (fun hh => e hh.symm)]; rfl
    by_cases g : placeC l q < l.length
    · rw [if_pos g, if_pos g, if_pos (by rw [List.length_append]; omega)]
    · rw [if_neg g, if_neg g, e1, if_neg (by simp)]
/- What has been laid of the first k names. -/
def nwC (l : List ByteArray) (k : Nat) : List Ct := newC (l.take k) ++ List.replicate (l.length - k) ⟨⟨#[]⟩, 0⟩
theorem nw_len (l : List ByteArray) {k : Nat} (hk : k ≤ l.length) : (newC (l.take k)).length = k := by rw [new_len, List.length_take]; omega
theorem nw_zero (l : List ByteArray) : nwC l 0 = List.replicate l.length ⟨⟨#[]⟩, 0⟩ := by unfold nwC newC; simp
theorem nw_end (l : List ByteArray) : nwC l l.length = newC l := by unfold nwC; simp
theorem nw_at {l : List ByteArray} {k : Nat} (hk : k < l.length) : (nwC l k)[k]? = some ⟨⟨#[]⟩, 0⟩ := by
  unfold nwC
  rw [List.getElem?_append_right (by rw [nw_len l (by omega)]; exact Nat.le_refl _), nw_len l (by omega), Nat.sub_self, List.getElem?_replicate, if_pos (by omega)]
theorem new_next {l : List ByteArray} {k : Nat} {x : ByteArray} (hx : l[k]? = some x) : newC (l.take (k + 1)) = newC (l.take k) ++ [⟨x, 0⟩] := by
  unfold newC
  rw [take_next hx, List.map_append]
  rfl
theorem nw_next {l : List ByteArray} {k : Nat} {x : ByteArray} (hx : l[k]? = some x) : (nwC l k).set k ⟨x, 0⟩ = nwC l (k + 1) := by
  have hk := (List.getElem?_eq_some_iff.1 hx).1
  obtain ⟨d, hd⟩ : ∃ d, l.length - k = d + 1 := ⟨l.length - k - 1, by omega⟩
  unfold nwC
  rw [List.set_append_right _ _ (by rw [nw_len l (by omega)]; exact Nat.le_refl _), nw_len l (by omega), Nat.sub_self, hd, show l.length - (k + 1) = d by omega, List.replicate_succ, List.set_cons_zero, new_next hx, List.append_assoc]
  rfl
/- What stands while names are laid. -/
structure NwR (w : World) (X G M n : Nat) (l : List ByteArray) (k : Nat) (u : World) : Prop where
  x : At u X #[.slice (some ⟨G, 0, none⟩) n n, .map (some M)] 52
  g : Og encC 2 61 u w.heap.size (.slice (some ⟨G, 0, none⟩) n n) (nwC l k)
  m : ∃ c, c ≤ k ∧ Gm Try.prog mapP u M (plcG (newC (l.take k))) c
  k : Kept w u
  f : w.heap.size ≤ X ∧ w.heap.size ≤ M
section
variable {w u u' : World} {X G M n k : Nat} {l : List ByteArray}
theorem nwr_kept (h : NwR w X G M n l k u) (q : Kept u u') : NwR w X G M n l k u' := by
  obtain ⟨c, hc, hm⟩ := h.m
  exact ⟨at_kept h.x q, og_stays h.g q, ⟨c, hc, gm_kept hm q⟩, kept_trans h.k q, h.f⟩
theorem nwr_look (h : NwR w X G M n l k u) (hk : k ≤ l.length) {x : ByteArray} (hq : QOk x) : (Instr.lookup 50 (.map (some M)) (.string x) true).run Try.prog u = .ok (.tuple #[.int .i64 ((plcG (newC (l.take k)) x).getD 0), .bool (decide (placeC (newC (l.take k)) x < k))]) u := by
  obtain ⟨c, hc, hm⟩ := h.m
  have := look2_P hm (qok_len hq)
  have e : (plcG (newC (l.take k)) x).isSome = decide (placeC (newC (l.take k)) x < k) := by
    unfold plcG
    rw [nw_len l hk]
    by_cases e : placeC (newC (l.take k)) x < k
    · rw [if_pos e, decide_eq_true e]; rfl
    · rw [if_neg e, decide_eq_false e]; rfl
  rwa [e] at this
theorem nwr_put (h : NwR w X G M n l k u) (hn : l.length ≤ 4096) {x : ByteArray} (hx : l[k]? = some x) (hq : QOk x) (hno : ¬ placeC (newC (l.take k)) x < k) : ∃ u', (Instr.mapUpdate 50 (.map (some M)) (.string x) (.int .i64 (k : Int))).run Try.prog (u.setCell ⟨G, k * 2, none⟩ (.string x)) = .ok () u' ∧ NwR w X G M n l (k + 1) u' := by
  have hk := (List.getElem?_eq_some_iff.1 hx).1
  obtain ⟨c, hc, hm⟩ := h.m
  obtain ⟨cg, hcg⟩ := og_type h.g
  obtain ⟨es, clock, hmm⟩ := gm_is hm
  have n1 : X ≠ G := at_ne h.x hcg (by decide)
  have n2 : G ≠ M := at_map hcg hmm
  have hG : w.heap.size ≤ G := og_lt h.g rfl
  have hm2 : Gm Try.prog mapP (u.setCell ⟨G, k * 2, none⟩ (.string x)) M (plcG (newC (l.take k))) c := gm_block hm (Below.heap_setCell _ _ _ _ n2.symm)
  obtain ⟨u', hrun, hg, ht⟩ := gm_put mapP_ok hm2 (by omega) (x := x) (qok_len hq) (k : Int)
  refine ⟨u', hrun, at_turned (at_other h.x n1 _ _) ht, ?_, ⟨c + 1, by omega, ?_⟩, kept_turned (kept_set h.k hG _ _) h.f.2 ht, h.f⟩
  · rw [← nw_next hx]
    exact og_turned (og_put encC_ok h.g (j := 0) (x' := ⟨x, 0⟩) (u := .string x) (nw_at hk) (by decide) rfl) ht
  · rw [new_next hx, plc_more (by rw [nw_len l (by omega)]; exact hno), nw_len l (by omega)]
    have e : (plcG (newC (l.take k)) x).isSome = false := by unfold plcG; rw [nw_len l (by omega), if_neg hno]; rfl
    rw [e] at hg
    exact hg
theorem nwr_start {w0 w3 : World} (k0 : Kept w w0) (hX : At w3 X #[.slice (some ⟨G, 0, none⟩) l.length l.length, .map (some M)] 52) (hG : Og encC 2 61 w3 w.heap.size (.slice (some ⟨G, 0, none⟩) l.length l.length) (List.replicate l.length ⟨⟨#[]⟩, 0⟩)) (hM : Gm Try.prog mapP w3 M (fun _ => none) 0) (k3 : Kept w w3) (f : w.heap.size ≤ X ∧ w.heap.size ≤ M) : NwR w X G M l.length l 0 w3 :=
  ⟨hX, by rw [nw_zero]; exact hG, ⟨0, Nat.le_refl _, hM⟩, k3, f⟩
end
theorem infoCn : (Try.prog.info? 61).map (fun i => (i.zero, i.size, i.bytes)) = some (some (.agg #[.string ⟨#[]⟩, .int .u64 0]), 2, 24) := by kernel_rfl
theorem run_makeMapH (n : Nat) (u : World) : (Instr.makeMap 50 (some (.int .i64 (n : Int)))).run Try.prog u = .ok (.map (some u.heap.size)) (u.alloc (.map #[] 0)) := by
  simp [Instr.makeMap, run_underlying mapP_ok.und, Try.underlying50, asInt, asIntOf, Result.andThen]
def NewC (l : List ByteArray) (w : World) (e : Ending) (w' : World) : Prop := (MayC l ∧ ∃ X F, e = .returned (.tuple #[.pointer (some ⟨X, 0, none⟩), .int .i64 0]) ∧ CoT w' X (newC l) F ∧ Kept w w' ∧ ∀ b, F b → w.heap.size ≤ b) ∨ (¬ MayC l ∧ e = .returned (.tuple #[.pointer none, .int .i64 1]) ∧ Kept w w')
set_option maxHeartbeats 3200000 in
theorem new_any (l : List ByteArray) (v : Value) (w : World) (hs : ∀ x ∈ l, QOk x) (h : Rg encK 1 w v l) : Calls Try.prog 8 #[v] w (NewC l w) := by
  have HR := hid h
  obtain ⟨a, cap, rfl, hc1, hc2, -, -⟩ := h
  have HQ : Hid (∀ k x, l[k]? = some x → QOk x) := hid (fun k x hx => hs x (List.mem_of_getElem? hx))
  have HG : Hid (∀ k, k < l.length → ∃ y, l[k]? = some y) := hid (fun k hk => ⟨l[k], List.getElem?_eq_getElem hk⟩)
  have HP : Hid (0 < l.length → ∃ g o, a = some ⟨g, o, none⟩) := hid (fun hp => by
    obtain ⟨g, o, c, e⟩ := rg_pos HR.out hp
    injection e with e1
    exact ⟨g, o, e1⟩)
  have HNo : Hid (∀ u, ¬ MayC l → Kept w u → NewC l w (.returned (.tuple #[.pointer none, .int .i64 1])) u) := hid (fun u hn hk => .inr ⟨hn, rfl, hk⟩)
  have HMay : Hid (MayC l ↔ 0 < l.length ∧ l.length ≤ 4096 ∧ FineN l l.length) := hid Iff.rfl
  have HYes : Hid (∀ X G M u, MayC l → NwR w X G M l.length l l.length u → NewC l w (.returned (.tuple #[.pointer (some ⟨X, 0, none⟩), .int .i64 0])) u) := hid (fun X G M u hm ht => by
    refine .inl ⟨hm, X, fun b => b = X ∨ b = G ∨ b = M, rfl, ?_, ht.k, ?_⟩
    · obtain ⟨c, hc, hmm⟩ := ht.m
      refine ⟨G, M, c, ⟨by rw [new_len]; exact ht.x, ?_, by rw [List.take_length] at hmm; exact hmm, ?_⟩, fun b => Iff.rfl⟩
      · rw [new_len, ← nw_end]
        exact og_low ht.g (Nat.zero_le _)
      · intro x hx
        unfold newC at hx
        obtain ⟨y, hy, rfl⟩ := List.mem_map.1 hx
        exact hs y hy
    · rintro b (rfl | rfl | rfl)
      · exact ht.f.1
      · exact og_lt ht.g rfl
      · exact ht.f.2)
  have HIn : Hid (∀ X G M k u, NwR w X G M l.length l k u → NwR w X G M l.length l k u) := hid (fun X G M k u h => h)
  have HPut : Hid (∀ X G M k u x, NwR w X G M l.length l k u → l.length ≤ 4096 → l[k]? = some x → ¬ placeC (newC (l.take k)) x < k → ∃ u', (Instr.mapUpdate 50 (.map (some M)) (.string x) (.int .i64 (k : Int))).run Try.prog (u.setCell ⟨G, k * 2, none⟩ (.string x)) = .ok () u' ∧ NwR w X G M l.length l (k + 1) u') := hid (fun X G M k u x hu hn hx hno => nwr_put hu hn hx (HQ.out k x hx) hno)
  have HLk : Hid (∀ X G M k u x, NwR w X G M l.length l k u → l[k]? = some x → (Instr.lookup 50 (.map (some M)) (.string x) true).run Try.prog u = .ok (.tuple #[.int .i64 ((plcG (newC (l.take k)) x).getD 0), .bool (decide (placeC (newC (l.take k)) x < k))]) u) := hid (fun X G M k u x hu hx => nwr_look hu (by have := (List.getElem?_eq_some_iff.1 hx).1; omega) (HQ.out k x hx))
  have HCell : Hid (∀ X G M k u, NwR w X G M l.length l k u → k < l.length → u.cell? ⟨G, k * 2, none⟩ = some (.string ⟨#[]⟩) ∧ u.frozen? ⟨G, k * 2, none⟩ = false) := hid (fun X G M k u hu hk => ⟨(og_C hu.g (nw_at hk)).1, og_frozen hu.g _⟩)
  have HTw : Hid (∀ k x, k < l.length → l[k]? = some x → placeC (newC (l.take k)) x < k → ¬ MayC l) := hid (fun k x hk hx hp hm => by
    have hl := nw_len l (k := k) (by omega)
    obtain ⟨y, hy⟩ : ∃ y, (newC (l.take k))[placeC (newC (l.take k)) x]? = some y := ⟨_, List.getElem?_eq_getElem (by rw [hl]; exact hp)⟩
    have h1 := place_is hy
    have h2 : l[placeC (newC (l.take k)) x]? = some x := by
      have hz := hy
      unfold newC at hz
      rw [List.getElem?_map, List.getElem?_take] at hz
      rw [show (List.map (fun q => (⟨q, 0⟩ : Ct)) (l.take k)) = newC (l.take k) from rfl, if_pos hp] at hz
      cases e : l[placeC (newC (l.take k)) x]? with
      | none => rw [e] at hz; cases hz
      | some z =>
        rw [e] at hz
        injection hz with hz
        rw [← hz] at h1
        rw [show z = x from h1]
    have h3 := (hm.2.2 k hk x hx).2 _ hp x h2
    rw [sameT_refl] at h3
    cases h3)
  have HFn : Hid (∀ k x, FineN l k → k < l.length → l[k]? = some x → sameT x emptyT = false → ¬ placeC (newC (l.take k)) x < k → FineN l (k + 1)) := hid (fun k x hf hk hx he hp => fine_next hf hx he (fun j hj y hy => by
    refine place_miss (l := newC (l.take k)) (by rw [nw_len l (by omega)]; exact hp) (j := j) (y := ⟨y, 0⟩) ?_
    unfold newC
    rw [List.getElem?_map, List.getElem?_take, if_pos hj, hy]
    rfl))
  have hmx : l.length ≤ maxLen := by omega
  unfold maxLen at hmx
  have HSt : Hid (∀ X G M u0 u3, Kept w u0 → At u3 X #[.slice (some ⟨G, 0, none⟩) l.length l.length, .map (some M)] 52 → Og encC 2 61 u3 w.heap.size (.slice (some ⟨G, 0, none⟩) l.length l.length) (List.replicate l.length ⟨⟨#[]⟩, 0⟩) → Gm Try.prog mapP u3 M (fun _ => none) 0 → Kept w u3 → w.heap.size ≤ X ∧ w.heap.size ≤ M → NwR w X G M l.length l 0 u3) := hid (fun X G M u0 u3 k0 hX hG hM k3 f => nwr_start k0 hX hG hM k3 f)
  clear hc1 hc2 hs
  obtain ⟨n, hn⟩ : ∃ n, n = l.length := ⟨_, rfl⟩
  rw [← hn] at HR HG HP HMay HYes HPut HCell HTw HFn HLk hmx HSt ⊢
  clear hn HIn
  by_cases h0 : n = 0
  · subst h0
    go_enter Try.func8, Try.ntmps8
    go_wp2_with fail
    go_ret2
    exact HNo.out _ (fun hh => by have := (HMay.out.1 hh).1; omega) (kept_refl _)
  by_cases h1 : 4096 < n
  · have b0 : ((n : Int) == 0) = false := by simp; omega
    have b1 : decide ((4096 : Int) < (n : Int)) = true := by simp; omega
    go_enter Try.func8, Try.ntmps8
    go_wp2_with fail
    go_ret2
    exact HNo.out _ (fun hh => by have := (HMay.out.1 hh).2.1; omega) (kept_refl _)
  have b0 : ((n : Int) == 0) = false := by simp; omega
  have b1 : decide ((4096 : Int) < (n : Int)) = false := by simp; omega
  obtain ⟨g, o, rfl⟩ := HP.out (by omega)
  obtain ⟨iC, hiC, hzC, hsC, hbC⟩ := info_parts infoCn
  have HK0 := hid (kept_drew (kept_refl w))
  generalize hwd : w.drew = wd at *
  obtain ⟨csA, mkA, OA⟩ := og_full (P := Try.prog) (t := 49) encC_ok Try.underlying49 hiC hzC hsC (by rw [hbC]; decide) (z := ⟨⟨#[]⟩, 0⟩) rfl n (by omega) wd
  obtain ⟨csB, mkB, OB⟩ := og_full (P := Try.prog) (t := 49) encC_ok Try.underlying49 hiC hzC hsC (by rw [hbC]; decide) (z := ⟨⟨#[]⟩, 0⟩) rfl n (by omega) (wd.alloc (.map #[] 0))
  have mmA := run_makeMapH n (wd.alloc (.cells csA 61))
  have mmB := run_makeMapH n wd
  have HEa : Hid (NwR w ((wd.alloc (.cells csA 61)).alloc (.map #[] 0)).heap.size wd.heap.size (wd.alloc (.cells csA 61)).heap.size n l 0 (((wd.alloc (.cells csA 61)).alloc (.map #[] 0)).alloc (.cells #[.slice (some ⟨wd.heap.size, 0, none⟩) n n, .map (some (wd.alloc (.cells csA 61)).heap.size)] 52))) := hid (by
    have k1 := kept_alloc HK0.out (.cells csA 61)
    have k2 := kept_alloc k1 (.map #[] 0)
    have k3 := kept_alloc k2 (.cells #[.slice (some ⟨wd.heap.size, 0, none⟩) n n, .map (some (wd.alloc (.cells csA 61)).heap.size)] 52)
    have q2 := kept_alloc (kept_refl (wd.alloc (.cells csA 61))) (.map #[] 0)
    have q3 := kept_alloc q2 (.cells #[.slice (some ⟨wd.heap.size, 0, none⟩) n n, .map (some (wd.alloc (.cells csA 61)).heap.size)] 52)
    exact HSt.out _ _ _ wd _ HK0.out (at_new _ _ _) (og_low (og_stays OA q3) HK0.out.2) (gm_kept (gm_made _) (kept_alloc (kept_refl _) _)) k3 ⟨k2.2, k1.2⟩)
  have HEb : Hid (NwR w ((wd.alloc (.map #[] 0)).alloc (.cells csB 61)).heap.size (wd.alloc (.map #[] 0)).heap.size wd.heap.size n l 0 (((wd.alloc (.map #[] 0)).alloc (.cells csB 61)).alloc (.cells #[.slice (some ⟨(wd.alloc (.map #[] 0)).heap.size, 0, none⟩) n n, .map (some wd.heap.size)] 52))) := hid (by
    have k1 := kept_alloc HK0.out (.map #[] 0)
    have k2 := kept_alloc k1 (.cells csB 61)
    have k3 := kept_alloc k2 (.cells #[.slice (some ⟨(wd.alloc (.map #[] 0)).heap.size, 0, none⟩) n n, .map (some wd.heap.size)] 52)
    have q2 := kept_alloc (kept_refl (wd.alloc (.map #[] 0))) (.cells csB 61)
    have q3 := kept_alloc q2 (.cells #[.slice (some ⟨(wd.alloc (.map #[] 0)).heap.size, 0, none⟩) n n, .map (some wd.heap.size)] 52)
    exact HSt.out _ _ _ wd _ HK0.out (at_new _ _ _) (og_low (og_stays OB (kept_alloc (kept_refl _) _)) k1.2) (gm_kept (gm_made wd) q3) k3 ⟨k2.2, HK0.out.2⟩)
  clear OA OB hiC hzC hsC hbC HSt
  obtain ⟨wA, hwA⟩ : ∃ u, u = wd.alloc (.cells csA 61) := ⟨_, rfl⟩
  obtain ⟨wB, hwB⟩ : ∃ u, u = wd.alloc (.map #[] 0) := ⟨_, rfl⟩
  rw [← hwA] at mkA mmA HEa
  rw [← hwB] at mkB mmB HEb
  obtain ⟨wA2, hwA2⟩ : ∃ u, u = wA.alloc (.map #[] 0) := ⟨_, rfl⟩
  obtain ⟨wB2, hwB2⟩ : ∃ u, u = wB.alloc (.cells csB 61) := ⟨_, rfl⟩
  rw [← hwA2] at mmA HEa
  rw [← hwB2] at mkB HEb
  obtain ⟨Gd, hGd⟩ : ∃ q, q = wd.heap.size := ⟨_, rfl⟩
  obtain ⟨Ma, hMa⟩ : ∃ q, q = wA.heap.size := ⟨_, rfl⟩
  obtain ⟨Xa, hXa⟩ : ∃ q, q = wA2.heap.size := ⟨_, rfl⟩
  obtain ⟨Gb, hGb⟩ : ∃ q, q = wB.heap.size := ⟨_, rfl⟩
  obtain ⟨Xb, hXb⟩ : ∃ q, q = wB2.heap.size := ⟨_, rfl⟩
  rw [← hGd] at mkA mmB HEa HEb
  rw [← hMa] at mmA HEa
  rw [← hXa] at HEa
  rw [← hGb] at mkB HEb
  rw [← hXb] at HEb
  clear hwA hwB hwA2 hwB2 hGd hMa hGb
  go_enter Try.func8, Try.ntmps8
  go_upto_region 3 with fail
  go_cut [4] (fun v wx => ∃ X G M, v = .pointer (some ⟨X, 0, none⟩) ∧ Hid (NwR w X G M n l 0 wx))
  case first =>
    refine wp_region_noPanic ?_
    refine wp_region_held_drew (S := (fun _ => True)) (by kernel_rfl) (trivial) (fun hHeld => ?_)
    rw [hwd]
    refine wpAnyH_take (i := 0) (v := .slice (some ⟨g, o, none⟩) n cap) rfl (by kernel_rfl) (by kernel_rfl) (by kernel_rfl) (fun _ _ _ h => h) (Or.inl ⟨by rfl, fun w hSw => by (try dsimp only at hSw); go_simp⟩) (by assumption) ?_
    try simp only [List.getElem_toArray, List.getElem_cons_zero, List.getElem_cons_succ, Act.put, List.setIfInBounds_toArray, List.set_cons_zero, List.set_cons_succ]
    refine wpAnyH_take (i := 1) (v := .int .i64 (n : Int)) rfl (by kernel_rfl) (by kernel_rfl) (by kernel_rfl) (fun _ _ _ h => h) (Or.inl ⟨by rfl, fun w hSw => by (try dsimp only at hSw); go_simp⟩) (by assumption) ?_
    try simp only [List.getElem_toArray, List.getElem_cons_zero, List.getElem_cons_succ, Act.put, List.setIfInBounds_toArray, List.set_cons_zero, List.set_cons_succ]
    refine wpAnyH_take (i := 3) (v := .slice (some ⟨g, o, none⟩) n cap) rfl (by kernel_rfl) (by kernel_rfl) (by kernel_rfl) (fun _ _ _ h => h) (Or.inl ⟨by rfl, fun w hSw => by (try dsimp only at hSw); go_simp⟩) (by assumption) ?_
    try simp only [List.getElem_toArray, List.getElem_cons_zero, List.getElem_cons_succ, Act.put, List.setIfInBounds_toArray, List.set_cons_zero, List.set_cons_succ]
    refine wpAnyH_take (i := 4) (v := .int .i64 (n : Int)) rfl (by kernel_rfl) (by kernel_rfl) (by kernel_rfl) (fun _ _ _ h => h) (Or.inl ⟨by rfl, fun w hSw => by (try dsimp only at hSw); go_simp⟩) (by assumption) ?_
    try simp only [List.getElem_toArray, List.getElem_cons_zero, List.getElem_cons_succ, Act.put, List.setIfInBounds_toArray, List.set_cons_zero, List.set_cons_succ]
    refine wpAnyH_ready (rs := [2, 5]) (by kernel_rfl) (by simp) ?_
    refine AllReadyH.cons (i := 2) rfl (fun K hK => ?_) ?_
    · go_simp
      clear hHeld
      show K _ _
      refine hK.out _ _ (trivial) (fun hHeld => ?_)
      clear hK K
      try simp only [List.getElem_toArray, List.getElem_cons_zero, List.getElem_cons_succ, Act.put, List.setIfInBounds_toArray, List.set_cons_zero, List.set_cons_succ]
      refine wpAnyH_ready (rs := [5]) (by kernel_rfl) (by simp) ?_
      refine AllReadyH.cons (i := 5) rfl (fun K hK => ?_) AllReadyH.nil
      go_simp
      clear hHeld
      show K _ _
      refine hK.out _ _ (trivial) (fun hHeld => ?_)
      clear hK K
      try simp only [List.getElem_toArray, List.getElem_cons_zero, List.getElem_cons_succ, Act.put, List.setIfInBounds_toArray, List.set_cons_zero, List.set_cons_succ]
      refine wpAnyH_take (i := 6) (v := .agg #[.slice (some ⟨Gd, 0, none⟩) n n, .map (some Ma)]) rfl (by kernel_rfl) (by kernel_rfl) (by kernel_rfl) (fun _ _ _ h => h) (Or.inl ⟨by rfl, fun w hSw => by (try dsimp only at hSw); go_simp⟩) (by assumption) ?_
      try simp only [List.getElem_toArray, List.getElem_cons_zero, List.getElem_cons_succ, Act.put, List.setIfInBounds_toArray, List.set_cons_zero, List.set_cons_succ]
      refine wpAnyH_ready (rs := [7]) (by kernel_rfl) (by simp) ?_
      refine AllReadyH.cons (i := 7) rfl (fun K hK => ?_) AllReadyH.nil
      go_simp
      rw [← hXa]
      clear hHeld
      show K _ _
      refine hK.out _ _ (trivial) (fun hHeld => ?_)
      clear hK K
      try simp only [List.getElem_toArray, List.getElem_cons_zero, List.getElem_cons_succ, Act.put, List.setIfInBounds_toArray, List.set_cons_zero, List.set_cons_succ]
      refine wpAnyH_take (i := 8) (v := .pointer (some ⟨Xa, 0, none⟩)) rfl (by kernel_rfl) (by kernel_rfl) (by kernel_rfl) (fun _ _ _ h => h) (Or.inl ⟨by rfl, fun w hSw => by (try dsimp only at hSw); go_simp⟩) (by assumption) ?_
      try simp only [List.getElem_toArray, List.getElem_cons_zero, List.getElem_cons_succ, Act.put, List.setIfInBounds_toArray, List.set_cons_zero, List.set_cons_succ]
      refine wpAnyH_done (by kernel_rfl) ?_ _
      refine NoPanic.normal ?_
      clear hHeld
      go_wp2_with fail
      go_meet
      exact ⟨_, _, _, rfl, HEa⟩
    refine AllReadyH.cons (i := 5) rfl (fun K hK => ?_) AllReadyH.nil
    go_simp
    clear hHeld
    show K _ _
    refine hK.out _ _ (trivial) (fun hHeld => ?_)
    clear hK K
    try simp only [List.getElem_toArray, List.getElem_cons_zero, List.getElem_cons_succ, Act.put, List.setIfInBounds_toArray, List.set_cons_zero, List.set_cons_succ]
    refine wpAnyH_ready (rs := [2]) (by kernel_rfl) (by simp) ?_
    refine AllReadyH.cons (i := 2) rfl (fun K hK => ?_) AllReadyH.nil
    go_simp
    clear hHeld
    show K _ _
    refine hK.out _ _ (trivial) (fun hHeld => ?_)
    clear hK K
    try simp only [List.getElem_toArray, List.getElem_cons_zero, List.getElem_cons_succ, Act.put, List.setIfInBounds_toArray, List.set_cons_zero, List.set_cons_succ]
    refine wpAnyH_take (i := 6) (v := .agg #[.slice (some ⟨Gb, 0, none⟩) n n, .map (some Gd)]) rfl (by kernel_rfl) (by kernel_rfl) (by kernel_rfl) (fun _ _ _ h => h) (Or.inl ⟨by rfl, fun w hSw => by (try dsimp only at hSw); go_simp⟩) (by assumption) ?_
    try simp only [List.getElem_toArray, List.getElem_cons_zero, List.getElem_cons_succ, Act.put, List.setIfInBounds_toArray, List.set_cons_zero, List.set_cons_succ]
    refine wpAnyH_ready (rs := [7]) (by kernel_rfl) (by simp) ?_
    refine AllReadyH.cons (i := 7) rfl (fun K hK => ?_) AllReadyH.nil
    go_simp
    rw [← hXb]
    clear hHeld
    show K _ _
    refine hK.out _ _ (trivial) (fun hHeld => ?_)
    clear hK K
    try simp only [List.getElem_toArray, List.getElem_cons_zero, List.getElem_cons_succ, Act.put, List.setIfInBounds_toArray, List.set_cons_zero, List.set_cons_succ]
    refine wpAnyH_take (i := 8) (v := .pointer (some ⟨Xb, 0, none⟩)) rfl (by kernel_rfl) (by kernel_rfl) (by kernel_rfl) (fun _ _ _ h => h) (Or.inl ⟨by rfl, fun w hSw => by (try dsimp only at hSw); go_simp⟩) (by assumption) ?_
    try simp only [List.getElem_toArray, List.getElem_cons_zero, List.getElem_cons_succ, Act.put, List.setIfInBounds_toArray, List.set_cons_zero, List.set_cons_succ]
    refine wpAnyH_done (by kernel_rfl) ?_ _
    refine NoPanic.normal ?_
    clear hHeld
    go_wp2_with fail
    go_meet
    exact ⟨_, _, _, rfl, HEb⟩
  case rest =>
  obtain ⟨X, G, M, rfl, HT0⟩ := hcut
  clear HEa HEb mkA mmA mkB mmB hXa hXb
  go_wp2_with fail
  go_loopw [27] (fun v wr => ∃ k : Nat, k ≤ n ∧ v = .int .i64 (k : Int) ∧ Hid (NwR w X G M n l k wr) ∧ Hid (FineN l k)) (fun v _ => n - (intOf v).toNat)
  case atStart => exact ⟨0, Nat.zero_le _, rfl, HT0, hid (fine_zero l)⟩
  case round =>
    obtain ⟨k, hk, rfl, HT, HF⟩ := hrel
    clear HT0
    by_cases hlt : k < n
    · obtain ⟨x, hx⟩ := HG.out k hlt
      have HX := hid hx
      have c0 := rg_K (rg_kept encK_ok HR.out HT.out.k) hx
      have x1 := (cells2 HT.out.x).2
      have hlk := HLk.out X G M k wr x HT.out hx
      generalize (plcG (newC (l.take k)) x).getD 0 = pv at hlk
      by_cases hp : placeC (newC (l.take k)) x < k
      · rw [decide_eq_true hp] at hlk
        have HN := hid (HNo.out wr (HTw.out k x hlt hx hp) HT.out.k)
        clear hx hp
        go_wp2_with fail
        go_ret2
        exact HN.out
      · have HPp := hid hp
        rw [decide_eq_false hp] at hlk
        clear hp
        cases hs : sameT x emptyT with
        | true =>
          have HN := hid (HNo.out wr (fun hh => by
            have := ((HMay.out.1 hh).2.2 k hlt x HX.out).1
            rw [hs] at this
            cases this) HT.out.k)
          rw [emp_is] at hs
          clear hx
          go_wp2_with fail
          go_ret2
          exact HN.out
        | false =>
          have HN := hid (HFn.out k x HF.out hlt hx hs HPp.out)
          rw [emp_is] at hs
          clear hx
          go_wp2_with fail
          refine (clone_any x (HQ.out k x HX.out) _).mono ?_
          rintro e w5 ⟨rfl, b5⟩
          have HT5 := hid (nwr_kept HT.out (kept_below b5))
          clear b5 c0 x1 hlk
          obtain ⟨x0, x1⟩ := cells2 HT5.out.x
          obtain ⟨q0, qf⟩ := HCell.out X G M k w5 HT5.out hlt
          obtain ⟨w6, hput, ht6⟩ := HPut.out X G M k w5 x HT5.out (by omega) HX.out HPp.out
          have y1 : (w5.setCell ⟨G, k * 2, none⟩ (.string x)).cell? ⟨X, 1, none⟩ = some (.map (some M)) := by
            obtain ⟨cg, hcg⟩ := og_type HT5.out.g
            exact at_cell (at_other HT5.out.x (at_ne HT5.out.x hcg (by decide)) _ _) 1
          have HT6 := hid ht6
          clear ht6
          go_wp2_with fail
          go_roundw
          case rel => exact ⟨k + 1, by omega, by go_num, HT6, HN⟩
          case measure => simp [intOf]; omega
    · have he : k = n := by omega
      subst he
      go_wp2_with fail
      go_ret2
      exact HYes.out _ _ _ _ (HMay.out.2 ⟨by omega, by omega, HF.out⟩) HT.out
end Go.Proofs.Ytibidhmahjbciaa
