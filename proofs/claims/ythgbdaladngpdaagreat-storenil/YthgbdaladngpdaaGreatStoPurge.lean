/- The contract of Purge: all that is old is taken out. The store has at most 500 records. -/
import Derived.Test.YthgbdaladngpdaaGreatStoGet
namespace Go.Proofs.YthgbdaladngpdaaGreat
open Go.ChangeShapes Go.WideShapes Go.ChangeAt Go.RowKit
open Go.Proofs.YthgbdaladngpdaaGreat.Whl (Tn tn_kept tn_refl tn_trans tn_set tn_alloc at_tn kept_tn It)
set_option linter.unusedVariables false
set_option linter.unusedSimpArgs false
set_option maxRecDepth 100000

def left (l : List Nat) (xs : List Int) (j : Nat) : List Nat := l.filter (fun i => decide ((i : Int) ∉ xs.take j))
theorem left_zero (l : List Nat) (xs : List Int) : left l xs 0 = l := by unfold left; simp
theorem left_mem {l : List Nat} {xs : List Int} {j i : Nat} : i ∈ left l xs j ↔ i ∈ l ∧ (i : Int) ∉ xs.take j := by unfold left; simp
theorem left_next {l : List Nat} {xs : List Int} {j i : Nat} (h : xs[j]? = some (i : Int)) : less (left l xs j) i = left l xs (j + 1) := by
  unfold less left
  rw [List.filter_filter]
  refine List.filter_congr (fun x hx => ?_)
  have e0 : xs.take (j + 1) = xs.take j ++ [(i : Int)] := by rw [List.take_add_one, h]; rfl
  rw [e0]
  by_cases e : x = i
  · subst e; simp
  · have e2 : (x : Int) ≠ (i : Int) := by omega
    simp [e, e2]
def waits (xs : List Int) (j : Nat) : Nat → Prop := fun i => (i : Int) ∈ xs.drop j
theorem waits_next {xs : List Int} {j i : Nat} (h : xs[j]? = some (i : Int)) : ∀ x, x ≠ i → (waits xs (j + 1) x ↔ waits xs j x) := by
  intro x hx
  unfold waits
  have hj : j < xs.length := by
    by_cases g : j < xs.length
    · exact g
    · rw [List.getElem?_eq_none (by omega)] at h; cases h
  rw [List.drop_eq_getElem_cons hj]
  have e : xs[j] = (i : Int) := by rw [List.getElem?_eq_getElem hj] at h; injection h
  rw [e, List.mem_cons]
  constructor
  · intro g; exact .inr g
  · rintro (g | g)
    · omega
    · exact g
section
variable {c : Cf} {pl : Nat → R} {l : List Nat} {f : ByteArray → Option Int} {M : List It} {t : Int}
theorem due_mem (h : Coh c pl l f M (fun _ => False)) (i : Nat) (hi : i ∈ l) : (i : Int) ∈ Whl.ids (Whl.due M t) ↔ (pl i).s.p + (c.K : Int) ≤ t := by
  unfold Whl.ids Whl.due
  rw [List.mem_map]
  constructor
  · rintro ⟨z, hz, e⟩
    obtain ⟨h1, h2⟩ := List.mem_filter.1 hz
    obtain ⟨j, hj, _, rfl⟩ := (h.whl z).1 h1
    have : j = i := by have e' : (j : Int) = (i : Int) := e; omega
    subst this
    simpa using h2
  · intro hle
    exact ⟨((pl i).s.p + (c.K : Int), (i : Int)), List.mem_filter.2 ⟨(h.whl _).2 ⟨i, hi, fun g => g, rfl⟩, by simpa using hle⟩, rfl⟩
theorem due_in (h : Coh c pl l f M (fun _ => False)) {x : Int} (hx : x ∈ Whl.ids (Whl.due M t)) : ∃ i : Nat, i ∈ l ∧ x = (i : Int) := by
  unfold Whl.ids Whl.due at hx
  obtain ⟨z, hz, e⟩ := List.mem_map.1 hx
  obtain ⟨j, hj, _, rfl⟩ := (h.whl z).1 (List.mem_filter.1 hz).1
  exact ⟨j, hj, e.symm⟩
theorem due_once (hM : Whl.Srt M) : (Whl.ids (Whl.due M t)).Nodup := by
  unfold Whl.ids List.Nodup
  rw [List.pairwise_map]
  exact hM.uni.filter _
theorem coh_due (h : Coh c pl l f M (fun _ => False)) : Coh c pl l f (Whl.aft M t) (waits (Whl.ids (Whl.due M t)) 0) := by
  refine ⟨h.once, h.low, h.taken, h.may, h.ok, h.keys, h.map, fun z => ?_⟩
  unfold Whl.aft
  rw [List.mem_filter, h.whl]
  constructor
  · rintro ⟨⟨i, hi, _, rfl⟩, hz⟩
    refine ⟨i, hi, fun g => ?_, rfl⟩
    have := (due_mem (t := t) h i hi).1 (by simpa [waits] using g)
    simp at hz
    omega
  · rintro ⟨i, hi, hw, rfl⟩
    refine ⟨⟨i, hi, fun g => g, rfl⟩, ?_⟩
    have : ¬ (pl i).s.p + (c.K : Int) ≤ t := fun g => hw (by simpa [waits] using (due_mem (t := t) h i hi).2 g)
    simp
    omega
theorem left_all (h : Coh c pl l f M (fun _ => False)) : (left l (Whl.ids (Whl.due M t)) (Whl.ids (Whl.due M t)).length).map pl = (l.map pl).filter (fun r => decide (t < r.s.p + (c.K : Int))) := by
  unfold left
  rw [List.take_length, List.filter_map]
  congr 1
  refine List.filter_congr (fun i hi => ?_)
  have := due_mem (t := t) h i hi
  show decide ((i : Int) ∉ _) = decide (t < (pl i).s.p + (c.K : Int))
  by_cases g : (pl i).s.p + (c.K : Int) ≤ t
  · rw [decide_eq_false (show ¬ ((i : Int) ∉ Whl.ids (Whl.due M t)) from fun q => q (this.2 g)), decide_eq_false (by omega)]
  · rw [decide_eq_true (show (i : Int) ∉ Whl.ids (Whl.due M t) from fun q => g (this.1 q)), decide_eq_true (by omega)]
theorem left_count (h : Coh c pl l f M (fun _ => False)) (hM : Whl.Srt M) : (Whl.ids (Whl.due M t)).length = l.length - (left l (Whl.ids (Whl.due M t)) (Whl.ids (Whl.due M t)).length).length := by
  have e1 : (l.filter (fun i : Nat => decide ((i : Int) ∈ Whl.ids (Whl.due M t)))).length + (left l (Whl.ids (Whl.due M t)) (Whl.ids (Whl.due M t)).length).length = l.length := by
    unfold left
    rw [List.take_length]
    rw [← List.countP_eq_length_filter, ← List.countP_eq_length_filter]
    have := List.length_eq_countP_add_countP (fun i : Nat => decide ((i : Int) ∈ Whl.ids (Whl.due M t))) (l := l)
    rw [this]
    congr 1
    refine List.countP_congr (fun x _ => ?_)
    simp
  have e2 : (Whl.ids (Whl.due M t)).length ≤ (l.filter (fun i : Nat => decide ((i : Int) ∈ Whl.ids (Whl.due M t)))).length := by
    have := nodup_subN (P := (l.filter (fun i : Nat => decide ((i : Int) ∈ Whl.ids (Whl.due M t)))).map (fun i : Nat => (i : Int))) (due_once (t := t) hM) (fun x hx => by
      obtain ⟨i, hi, rfl⟩ := due_in h hx
      exact List.mem_map.2 ⟨i, List.mem_filter.2 ⟨hi, by simpa using hx⟩, rfl⟩)
    simpa using this
  have e3 : (l.filter (fun i : Nat => decide ((i : Int) ∈ Whl.ids (Whl.due M t)))).length ≤ (Whl.ids (Whl.due M t)).length := by
    have hn : ((l.filter (fun i : Nat => decide ((i : Int) ∈ Whl.ids (Whl.due M t)))).map (fun i : Nat => (i : Int))).Nodup := by
      unfold List.Nodup
      rw [List.pairwise_map]
      exact (h.once.filter _).imp (fun g e => g (by omega))
    have := nodup_subN hn (P := Whl.ids (Whl.due M t)) (fun x hx => by
      obtain ⟨i, hi, rfl⟩ := List.mem_map.1 hx
      simpa using (List.mem_filter.1 hi).2)
    simpa using this
  omega
end
theorem own_tn3 {w w' : World} {B : Nat} {v : Value} {xs : List Int} {F : Nat → Prop} (h : Whl.OwnI w B v xs) (t : Tn F w w') (hF : ∀ k, F k → k < B) : Whl.OwnI w' B v xs := by
  refine ⟨h.1, ?_⟩
  rcases h.2 with hn | ⟨g, cap, cur, rfl, hb, hg, rest⟩
  · exact .inl hn
  · exact .inr ⟨g, cap, cur, rfl, hb, (t.2.2.2 g (at_lt hg) (fun hf => by have := hF g hf; omega)).trans hg, rest⟩
def PurC (F : Nat → Prop) (X : Nat) (c : Cf) (s : MS) (now : Int) (w : World) (e : Ending) (w' : World) : Prop :=
  e = .returned (.int .i64 ((s.L.length - (purgeS c s now).L.length : Nat) : Int)) ∧ Tn F w w' ∧ St w' F X c (purgeS c s now)
set_option maxHeartbeats 1600000 in
theorem purge_any {F : Nat → Prop} {X : Nat} {c : Cf} {s : MS} (hc : c.may) (now : Int) (hl : s.L.length ≤ 500) (w : World) (h : St w F X c s) :
    Calls Tryz.prog 21 #[.pointer (some ⟨X, 0, none⟩), .int .u64 now] w (PurC F X c s now w) := by
  obtain ⟨pl, l, ⟨f, M, a, hm, hco⟩, hL⟩ := h
  have hln : l.length ≤ 500 := by rw [hL] at hl; simpa using hl
  have hMl : M.length ≤ 1000 := by have := whl_len hco (Whl.good_srt hm.whl); omega
  obtain ⟨⟨_, _, _, c3, _⟩, _⟩ := sm_cells hm
  have hdue := Whl.due_any now hMl w hm.whl
  obtain ⟨xs, hxs⟩ : ∃ xs, Whl.ids (Whl.due M now) = xs := ⟨_, rfl⟩
  have HLow := hid hm.low
  have HEnd : Hid (∀ u, Tn F w u → ∀ pl', (∀ j ∈ left l xs xs.length, pl' j = pl j) → StI u F X c pl' (left l xs xs.length) s.fl s.ev (waits xs xs.length) → PurC F X c s now w (.returned (.int .i64 (xs.length : Int))) u) := hid (fun u tu pl' hpl hi => by
    have e1 := left_all (t := now) hco
    have e2 := left_count (t := now) hco (Whl.good_srt hm.whl)
    rw [hxs] at e1 e2
    have e3 : (left l xs xs.length).map pl' = (purgeS c s now).L := by
      rw [List.map_congr_left hpl, e1, ← hL]
      rfl
    have e4 : waits xs xs.length = fun _ => False := by
      funext i
      unfold waits
      simp
    rw [e4] at hi
    refine ⟨?_, tu, pl', left l xs xs.length, hi, e3.symm⟩
    have e5 : s.L.length = l.length := by rw [hL]; simp
    have e6 : (purgeS c s now).L.length = (left l xs xs.length).length := by rw [← e3]; simp
    rw [e5, e6, ← e2])
  have HIn : Hid (∀ j x, xs[j]? = some x → ∃ i : Nat, x = (i : Int) ∧ i ∈ left l xs j) := hid (fun j x hx => by
    have hmem : x ∈ xs := List.mem_of_getElem? hx
    rw [← hxs] at hmem
    obtain ⟨i, hi, rfl⟩ := due_in hco hmem
    refine ⟨i, rfl, left_mem.2 ⟨hi, fun g => ?_⟩⟩
    have hn : xs.Nodup := by rw [← hxs]; exact due_once (Whl.good_srt hm.whl)
    obtain ⟨m, hm1, hm2⟩ := List.getElem_of_mem g
    have hm3 : m < j := by simp at hm1; omega
    have hj : j < xs.length := by
      by_cases q : j < xs.length
      · exact q
      · rw [List.getElem?_eq_none (by omega)] at hx; cases hx
    have h5 : xs[m] = (i : Int) := by rw [← hm2]; simp
    have h6 : xs[j] = (i : Int) := by rw [List.getElem?_eq_getElem hj] at hx; injection hx
    have := (List.pairwise_iff_getElem.1 hn) m j (by omega) hj hm3
    exact this (h5.trans h6.symm))
  have HD : Hid (∀ u, Tn a.Fw w u → Whl.Good u a.Fw a.Xw (Whl.aft M now) → StI u F X c pl l s.fl s.ev (waits xs 0) ∧ Tn F w u) := hid (fun u tu gu => ⟨⟨f, _, a, sm_whl' hm tu gu, by rw [← hxs]; exact coh_due hco⟩, tn_mono tu hm.fw⟩)
  have hx4 : xs.length ≤ 1000 := by rw [← hxs]; unfold Whl.ids Whl.due; simp; exact Nat.le_trans (List.length_filter_le _ _) hMl
  rw [← hxs] at hx4
  have hdue2 : Calls Tryz.prog 51 #[.pointer (some ⟨a.Xw, 0, none⟩), .int .u64 now] w fun e w' => ∃ v, e = .returned v ∧ Whl.OwnI w' w.heap.size v xs ∧ Tn a.Fw w w' ∧ Whl.Good w' a.Fw a.Xw (Whl.aft M now) := by
    rw [← hxs]; exact hdue
  rw [hxs] at hx4
  clear hm hco hdue hxs hL hMl
  go_enter Tryz.func21, Tryz.ntmps21
  go_wp2_with fail
  refine hdue2.mono ?_
  rintro e w1 ⟨v, rfl, o1, t1, g1⟩
  obtain ⟨i1, t2⟩ := HD.out _ t1 g1
  have HO1 := hid o1
  have HI1 := hid i1
  have HT1 := hid t2
  obtain ⟨va, vc, rfl, _⟩ := Whl.rw_own o1
  clear HD hdue2 c3 o1 t1 g1 i1 t2
  go_wp2_with fail
  go_loopw [7, 18] (fun p i wr => ∃ j : Nat, j ≤ xs.length ∧ i = .int .i64 (j : Int) ∧ Hid (∃ pl', (∀ q ∈ left l xs j, pl' q = pl q) ∧ StI wr F X c pl' (left l xs j) s.fl s.ev (waits xs j)) ∧ Hid (Tn F w wr) ∧ Hid (Whl.OwnI wr w.heap.size (.slice va xs.length vc) xs)) (fun _ i _ => xs.length - (intOf i).toNat)
  case atStart => exact ⟨0, Nat.zero_le _, rfl, hid ⟨pl, fun _ _ => rfl, by rw [left_zero]; exact HI1.out⟩, HT1, HO1⟩
  case round =>
    obtain ⟨j, hj, rfl, HI, HT, HO⟩ := hrel
    clear HI1 HT1 HO1
    by_cases hlt : j < xs.length
    · obtain ⟨x, hx⟩ : ∃ x, xs[j]? = some x := ⟨xs[j], List.getElem?_eq_getElem hlt⟩
      obtain ⟨i, rfl, hil⟩ := HIn.out j x hx
      obtain ⟨pl', hpl, hI⟩ := HI.out
      obtain ⟨a2, c2, e2, hrd⟩ := Whl.rw_own HO.out
      injection e2 with e2 e3 e4
      clear e3
      subst e2 e4
      obtain ⟨g, o, rfl, hcell⟩ := hrd (by omega)
      have cx := hcell j _ hx
      have hlj : (left l xs j).length ≤ 500 := Nat.le_trans (List.length_filter_le _ _) hln
      have hto := takeOut_any (pend' := waits xs (j + 1)) hc i hil hlj (waits_next hx) wr hI
      have HNx : Hid (∀ u, StI u F X c (updR pl' i zeroR) (less (left l xs j) i) s.fl s.ev (waits xs (j + 1)) → ∃ pl', (∀ q ∈ left l xs (j + 1), pl' q = pl q) ∧ StI u F X c pl' (left l xs (j + 1)) s.fl s.ev (waits xs (j + 1))) := hid (fun u hu => by
        rw [left_next hx] at hu
        refine ⟨_, fun q hq => ?_, hu⟩
        have h1 := hq
        rw [← left_next hx, less_mem] at h1
        rw [updR_ne _ _ h1.2]
        exact hpl q h1.1)
      clear hI hrd hcell hx hpl HI hil
      go_wp2_with fail
      refine hto.mono ?_
      rintro e w2 ⟨rfl, t2, i2⟩
      have HI2 := hid (HNx.out _ i2)
      have HT2 := hid (tn_trans HT.out t2)
      have HO2 := hid (own_tn3 HO.out t2 HLow.out)
      clear t2 i2 HNx hto HT HO cx
      go_wp2_with fail
      go_roundw
      case rel => exact ⟨j + 1, by omega, by go_num, HI2, HT2, HO2⟩
      case measure => simp [intOf]; omega
    · have hje : j = xs.length := by omega
      subst hje
      obtain ⟨pl', hpl, hI⟩ := HI.out
      have HZ := hid (HEnd.out _ HT.out pl' hpl hI)
      clear HI HT HO hI hpl HEnd HIn
      go_wp2_with fail
      go_ret
      exact HZ.out
end Go.Proofs.YthgbdaladngpdaaGreat
