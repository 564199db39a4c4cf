/- The contract of Purge: all that is old is taken out. The store has at most 500 records. The chapter's example, walked; the calls of a nil store; the law that a nil store has nothing. The arguments opened: a record and a store's bounds handed in by value, rows of calls, of records, of texts. More plain mathematics of a store, for its laws: ranges by rising keys, sums over all ranges; that it never goes backwards; that it is the same in any order. No condition but those that are stated. -/
import Derived.Test.YthgbdaladngpdaaGreatP17
import Derived.SliceStrings
import Derived.ChangeSlices
import Derived.Lib.SmallJoins
import Derived.Deep.Slices
/- The contract of Purge: all that is old is taken out. The store has at most 500 records. -/
namespace Go.Proofs.YthgbdaladngpdaaGreat
open Go.ChangeShapes Go.WideShapes Go.ChangeAt Go.RowKit
open Go.Proofs.YthgbdaladngpdaaGreat.Whl (Tn tn_kept tn_refl tn_trans tn_set tn_alloc at_tn kept_tn It)
set_option linter.unusedVariables false
set_option linter.unusedSimpArgs false
set_option maxRecDepth 100000

def left (l : List Nat) (xs : List Int) (j : Nat) : List Nat := l.filter (fun i => decide ((i : Int) ∉ xs.take j))
theorem left_zero (l : List Nat) (xs : List Int) : left l xs 0 = l := by unfold left; simp
theorem left_mem {l : List Nat} {xs : List Int} {j i : Nat} : i ∈ left l xs j ↔ i ∈ l ∧ (i : Int) ∉ xs.take j := by unfold left; simp
theorem left_next {l : List Nat} {xs : List Int} {j i : Nat} (h : xs[j]? = some (i : Int)) : less (left l xs j) i = left l xs (j + 1) := by
  unfold less left
  rw [List.filter_filter]
  refine List.filter_congr (fun x hx => ?_)
  have e0 : xs.take (j + 1) = xs.take j ++ [(i : Int)] := by rw [List.take_add_one, h]; rfl
  rw [e0]
  by_cases e : x = i
  · subst e; simp
  · have e2 : (x : Int) ≠ (i : Int) := by omega
    simp [e, e2]
def waits (xs : List Int) (j : Nat) : Nat → Prop := fun i => (i : Int) ∈ xs.drop j
theorem waits_next {xs : List Int} {j i : Nat} (h : xs[j]? = some (i : Int)) : ∀ x, x ≠ i → (waits xs (j + 1) x ↔ waits xs j x) := by
  intro x hx
  unfold waits
  have hj : j < xs.length := by
    by_cases g : j < xs.length
    · exact g
    · rw [List.getElem?_eq_none (by omega)] at h; cases h
  rw [List.drop_eq_getElem_cons hj]
  have e : xs[j] = (i : Int) := by rw [List.getElem?_eq_getElem hj] at h; injection h
  rw [e, List.mem_cons]
  constructor
  · intro g; exact .inr g
  · rintro (g | g)
    · omega
    · exact g
section
variable {c : Cf} {pl : Nat → R} {l : List Nat} {f : ByteArray → Option Int} {M : List It} {t : Int}
theorem due_mem (h : Coh c pl l f M (fun _ => False)) (i : Nat) (hi : i ∈ l) : (i : Int) ∈ Whl.ids (Whl.due M t) ↔ (pl i).s.p + (c.K : Int) ≤ t := by
  unfold Whl.ids Whl.due
  rw [List.mem_map]
  constructor
  · rintro ⟨z, hz, e⟩
    obtain ⟨h1, h2⟩ := List.mem_filter.1 hz
    obtain ⟨j, hj, _, rfl⟩ := (h.whl z).1 h1
    have : j = i := by have e' : (j : Int) = (i : Int) := e; omega
    subst this
    simpa using h2
  · intro hle
    exact ⟨((pl i).s.p + (c.K : Int), (i : Int)), List.mem_filter.2 ⟨(h.whl _).2 ⟨i, hi, fun g => g, rfl⟩, by simpa using hle⟩, rfl⟩
theorem due_in (h : Coh c pl l f M (fun _ => False)) {x : Int} (hx : x ∈ Whl.ids (Whl.due M t)) : ∃ i : Nat, i ∈ l ∧ x = (i : Int) := by
  unfold Whl.ids Whl.due at hx
  obtain ⟨z, hz, e⟩ := List.mem_map.1 hx
  obtain ⟨j, hj, _, rfl⟩ := (h.whl z).1 (List.mem_filter.1 hz).1
  exact ⟨j, hj, e.symm⟩
theorem due_once (hM : Whl.Srt M) : (Whl.ids (Whl.due M t)).Nodup := by
  unfold Whl.ids List.Nodup
  rw [List.pairwise_map]
  exact hM.uni.filter _
theorem coh_due (h : Coh c pl l f M (fun _ => False)) : Coh c pl l f (Whl.aft M t) (waits (Whl.ids (Whl.due M t)) 0) := by
  refine ⟨h.once, h.low, h.taken, h.may, h.ok, h.keys, h.map, fun z => ?_⟩
  unfold Whl.aft
  rw [List.mem_filter, h.whl]
  constructor
  · rintro ⟨⟨i, hi, _, rfl⟩, hz⟩
    refine ⟨i, hi, fun g => ?_, rfl⟩
    have := (due_mem (t := t) h i hi).1 (by simpa [waits] using g)
    simp at hz
    omega
  · rintro ⟨i, hi, hw, rfl⟩
    refine ⟨⟨i, hi, fun g => g, rfl⟩, ?_⟩
    have : ¬ (pl i).s.p + (c.K : Int) ≤ t := fun g => hw (by simpa [waits] using (due_mem (t := t) h i hi).2 g)
    simp
    omega
theorem left_all (h : Coh c pl l f M (fun _ => False)) : (left l (Whl.ids (Whl.due M t)) (Whl.ids (Whl.due M t)).length).map pl = (l.map pl).filter (fun r => decide (t < r.s.p + (c.K : Int))) := by
  unfold left
  rw [List.take_length, List.filter_map]
  congr 1
  refine List.filter_congr (fun i hi => ?_)
  have := due_mem (t := t) h i hi
  show decide ((i : Int) ∉ _) = decide (t < (pl i).s.p + (c.K : Int))
  by_cases g : (pl i).s.p + (c.K : Int) ≤ t
  · rw [decide_eq_false (show ¬ ((i : Int) ∉ Whl.ids (Whl.due M t)) from fun q => q (this.2 g)), decide_eq_false (by omega)]
  · rw [decide_eq_true (show (i : Int) ∉ Whl.ids (Whl.due M t) from fun q => g (this.1 q)), decide_eq_true (by omega)]
theorem left_count (h : Coh c pl l f M (fun _ => False)) (hM : Whl.Srt M) : (Whl.ids (Whl.due M t)).length = l.length - (left l (Whl.ids (Whl.due M t)) (Whl.ids (Whl.due M t)).length).length := by
  have e1 : (l.filter (fun i : Nat => decide ((i : Int) ∈ Whl.ids (Whl.due M t)))).length + (left l (Whl.ids (Whl.due M t)) (Whl.ids (Whl.due M t)).length).length = l.length := by
    unfold left
    rw [List.take_length]
    rw [← List.countP_eq_length_filter, ← List.countP_eq_length_filter]
    have := List.length_eq_countP_add_countP (fun i : Nat => decide ((i : Int) ∈ Whl.ids (Whl.due M t))) (l := l)
    rw [this]
    congr 1
    refine List.countP_congr (fun x _ => ?_)
    simp
  have e2 : (Whl.ids (Whl.due M t)).length ≤ (l.filter (fun i : Nat => decide ((i : Int) ∈ Whl.ids (Whl.due M t)))).length := by
    have := nodup_subN (P := (l.filter (fun i : Nat => decide ((i : Int) ∈ Whl.ids (Whl.due M t)))).map (fun i : Nat => (i : Int))) (due_once (t := t) hM) (fun x hx => by
      obtain ⟨i, hi, rfl⟩ := due_in h hx
      exact List.mem_map.2 ⟨i, List.mem_filter.2 ⟨hi, by simpa using hx⟩, rfl⟩)
    simpa using this
  have e3 : (l.filter (fun i : Nat => decide ((i : Int) ∈ Whl.ids (Whl.due M t)))).length ≤ (Whl.ids (Whl.due M t)).length := by
    have hn : ((l.filter (fun i : Nat => decide ((i : Int) ∈ Whl.ids (Whl.due M t)))).map (fun i : Nat => (i : Int))).Nodup := by
      unfold List.Nodup
      rw [List.pairwise_map]
      exact (h.once.filter _).imp (fun g e => g (by omega))
    have := nodup_subN hn (P := Whl.ids (Whl.due M t)) (fun x hx => by
      obtain ⟨i, hi, rfl⟩ := List.mem_map.1 hx
      simpa using (List.mem_filter.1 hi).2)
    simpa using this
  omega
end
theorem own_tn3 {w w' : World} {B : Nat} {v : Value} {xs : List Int} {F : Nat → Prop} (h : Whl.OwnI w B v xs) (t : Tn F w w') (hF : ∀ k, F k → k < B) : Whl.OwnI w' B v xs := by
  refine ⟨h.1, ?_⟩
  rcases h.2 with hn | ⟨g, cap, cur, rfl, hb, hg, rest⟩
  · exact .inl hn
  · exact .inr ⟨g, cap, cur, rfl, hb, (t.2.2.2 g (at_lt hg) (fun hf => by have := hF g hf; omega)).trans hg, rest⟩
def PurC (F : Nat → Prop) (X : Nat) (c : Cf) (s : MS) (now : Int) (w : World) (e : Ending) (w' : World) : Prop :=
  e = .returned (.int .i64 ((s.L.length - (purgeS c s now).L.length : Nat) : Int)) ∧ Tn F w w' ∧ St w' F X c (purgeS c s now)
set_option maxHeartbeats 1600000 in
theorem purge_any {F : Nat → Prop} {X : Nat} {c : Cf} {s : MS} (hc : c.may) (now : Int) (hl : s.L.length ≤ 500) (w : World) (h : St w F X c s) :
    Calls Tryz.prog 21 #[.pointer (some ⟨X, 0, none⟩), .int .u64 now] w (PurC F X c s now w) := by
  obtain ⟨pl, l, ⟨f, M, a, hm, hco⟩, hL⟩ := h
  have hln : l.length ≤ 500 := by rw [hL] at hl; simpa using hl
  have hMl : M.length ≤ 1000 := by have := whl_len hco (Whl.good_srt hm.whl); omega
  obtain ⟨⟨_, _, _, c3, _⟩, _⟩ := sm_cells hm
  have hdue := Whl.due_any now hMl w hm.whl
  obtain ⟨xs, hxs⟩ : ∃ xs, Whl.ids (Whl.due M now) = xs := ⟨_, rfl⟩
  have HLow := hid hm.low
  have HEnd : Hid (∀ u, Tn F w u → ∀ pl', (∀ j ∈ left l xs xs.length, pl' j = pl j) → StI u F X c pl' (left l xs xs.length) s.fl s.ev (waits xs xs.length) → PurC F X c s now w (.returned (.int .i64 (xs.length : Int))) u) := hid (fun u tu pl' hpl hi => by
    have e1 := left_all (t := now) hco
    have e2 := left_count (t := now) hco (Whl.good_srt hm.whl)
    rw [hxs] at e1 e2
    have e3 : (left l xs xs.length).map pl' = (purgeS c s now).L := by
      rw [List.map_congr_left hpl, e1, ← hL]
      rfl
    have e4 : waits xs xs.length = fun _ => False := by
      funext i
      unfold waits
      simp
    rw [e4] at hi
    refine ⟨?_, tu, pl', left l xs xs.length, hi, e3.symm⟩
    have e5 : s.L.length = l.length := by rw [hL]; simp
    have e6 : (purgeS c s now).L.length = (left l xs xs.length).length := by rw [← e3]; simp
    rw [e5, e6, ← e2])
  have HIn : Hid (∀ j x, xs[j]? = some x → ∃ i : Nat, x = (i : Int) ∧ i ∈ left l xs j) := hid (fun j x hx => by
    have hmem : x ∈ xs := List.mem_of_getElem? hx
    rw [← hxs] at hmem
    obtain ⟨i, hi, rfl⟩ := due_in hco hmem
    refine ⟨i, rfl, left_mem.2 ⟨hi, fun g => ?_⟩⟩
    have hn : xs.Nodup := by rw [← hxs]; exact due_once (Whl.good_srt hm.whl)
    obtain ⟨m, hm1, hm2⟩ := List.getElem_of_mem g
    have hm3 : m < j := by simp at hm1; omega
    have hj : j < xs.length := by
      by_cases q : j < xs.length
      · exact q
      · rw [List.getElem?_eq_none (by omega)] at hx; cases hx
    have h5 : xs[m] = (i : Int) := by rw [← hm2]; simp
    have h6 : xs[j] = (i : Int) := by rw [List.getElem?_eq_getElem hj] at hx; injection hx
    have := (List.pairwise_iff_getElem.1 hn) m j (by omega) hj hm3
    exact this (h5.trans h6.symm))
  have HD : Hid (∀ u, Tn a.Fw w u → Whl.Good u a.Fw a.Xw (Whl.aft M now) → StI u F X c pl l s.fl s.ev (waits xs 0) ∧ Tn F w u) := hid (fun u tu gu => ⟨⟨f, _, a, sm_whl' hm tu gu, by rw [← hxs]; exact coh_due hco⟩, tn_mono tu hm.fw⟩)
  have hx4 : xs.length ≤ 1000 := by rw [← hxs]; unfold Whl.ids Whl.due; simp; exact Nat.le_trans (List.length_filter_le _ _) hMl
  rw [← hxs] at hx4
  have hdue2 : Calls Tryz.prog 51 #[.pointer (some ⟨a.Xw, 0, none⟩), .int .u64 now] w fun e w' => ∃ v, e = .returned v ∧ Whl.OwnI w' w.heap.size v xs ∧ Tn a.Fw w w' ∧ Whl.Good w' a.Fw a.Xw (Whl.aft M now) := by
    rw [← hxs]; exact hdue
  rw [hxs] at hx4
  clear hm hco hdue hxs hL hMl
  go_enter Tryz.func21, Tryz.ntmps21
  go_wp2_with fail
  refine hdue2.mono ?_
  rintro e w1 ⟨v, rfl, o1, t1, g1⟩
  obtain ⟨i1, t2⟩ := HD.out _ t1 g1
  have HO1 := hid o1
  have HI1 := hid i1
  have HT1 := hid t2
  obtain ⟨va, vc, rfl, _⟩ := Whl.rw_own o1
  clear HD hdue2 c3 o1 t1 g1 i1 t2
  go_wp2_with fail
  go_loopw [7, 18] (fun p i wr => ∃ j : Nat, j ≤ xs.length ∧ i = .int .i64 (j : Int) ∧ Hid (∃ pl', (∀ q ∈ left l xs j, pl' q = pl q) ∧ StI wr F X c pl' (left l xs j) s.fl s.ev (waits xs j)) ∧ Hid (Tn F w wr) ∧ Hid (Whl.OwnI wr w.heap.size (.slice va xs.length vc) xs)) (fun _ i _ => xs.length - (intOf i).toNat)
  case atStart => exact ⟨0, Nat.zero_le _, rfl, hid ⟨pl, fun _ _ => rfl, by rw [left_zero]; exact HI1.out⟩, HT1, HO1⟩
  case round =>
    obtain ⟨j, hj, rfl, HI, HT, HO⟩ := hrel
    clear HI1 HT1 HO1
    by_cases hlt : j < xs.length
    · obtain ⟨x, hx⟩ : ∃ x, xs[j]? = some x := ⟨xs[j], List.getElem?_eq_getElem hlt⟩
      obtain ⟨i, rfl, hil⟩ := HIn.out j x hx
      obtain ⟨pl', hpl, hI⟩ := HI.out
      obtain ⟨a2, c2, e2, hrd⟩ := Whl.rw_own HO.out
      injection e2 with e2 e3 e4
      clear e3
      subst e2 e4
      obtain ⟨g, o, rfl, hcell⟩ := hrd (by omega)
      have cx := hcell j _ hx
      have hlj : (left l xs j).length ≤ 500 := Nat.le_trans (List.length_filter_le _ _) hln
      have hto := takeOut_any (pend' := waits xs (j + 1)) hc i hil hlj (waits_next hx) wr hI
      have HNx : Hid (∀ u, StI u F X c (updR pl' i zeroR) (less (left l xs j) i) s.fl s.ev (waits xs (j + 1)) → ∃ pl', (∀ q ∈ left l xs (j + 1), pl' q = pl q) ∧ StI u F X c pl' (left l xs (j + 1)) s.fl s.ev (waits xs (j + 1))) := hid (fun u hu => by
        rw [left_next hx] at hu
        refine ⟨_, fun q hq => ?_, hu⟩
        have h1 := hq
        rw [← left_next hx, less_mem] at h1
        rw [updR_ne _ _ h1.2]
        exact hpl q h1.1)
      clear hI hrd hcell hx hpl HI hil
      go_wp2_with fail
      refine hto.mono ?_
      rintro e w2 ⟨rfl, t2, i2⟩
      have HI2 := hid (HNx.out _ i2)
      have HT2 := hid (tn_trans HT.out t2)
      have HO2 := hid (own_tn3 HO.out t2 HLow.out)
      clear t2 i2 HNx hto HT HO cx
      go_wp2_with fail
      go_roundw
      case rel => exact ⟨j + 1, by omega, by go_num, HI2, HT2, HO2⟩
      case measure => simp [intOf]; omega
    · have hje : j = xs.length := by omega
      subst hje
      obtain ⟨pl', hpl, hI⟩ := HI.out
      have HZ := hid (HEnd.out _ HT.out pl' hpl hI)
      clear HI HT HO hI hpl HEnd HIn
      go_wp2_with fail
      go_ret
      exact HZ.out
end Go.Proofs.YthgbdaladngpdaaGreat

/- The chapter's example, walked; the calls of a nil store; the law that a nil store has nothing. -/
namespace Go.Proofs.YthgbdaladngpdaaGreat
open Go.ChangeShapes Go.WideShapes Go.ChangeAt Go.RowKit
open Go.Proofs.YthgbdaladngpdaaGreat.Whl (Tn tn_kept tn_refl tn_trans tn_set tn_alloc at_tn kept_tn It)
set_option linter.unusedVariables false
set_option linter.unusedSimpArgs false
set_option maxRecDepth 100000

def exA : R := ⟨⟨#[97]⟩, ⟨5, 0, 0⟩, 2, 0, 0, ⟨#[]⟩⟩
def exB : R := ⟨⟨#[98]⟩, ⟨4, 0, 0⟩, 2, 0, 0, ⟨#[]⟩⟩
def exC : Cf := ⟨1, 100, 10⟩
def ex1 : MS := ⟨[exA], fun _ => zero, 0⟩
def ex2 : MS := ⟨[exB], raise (fun _ => zero) exA, 1⟩
theorem exC_may : exC.may := by unfold Cf.may exC; decide
theorem exA_ok : exA.ok := ⟨by decide, ⟨by decide, by decide, by decide, by decide, by decide, by decide⟩, by decide, by decide, by decide, by decide⟩
theorem exB_ok : exB.ok := ⟨by decide, ⟨by decide, by decide, by decide, by decide, by decide, by decide⟩, by decide, by decide, by decide, by decide⟩
theorem ab_ne : exA.key ≠ exB.key := by
  intro e
  have := congrArg (fun s : ByteArray => s.data.toList) e
  simp [exA, exB] at this
theorem ba_ne : exB.key ≠ exA.key := Ne.symm ab_ne
theorem mayA : mayR exA = true := by rfl
theorem mayB : mayR exB = true := by rfl
theorem lenA : lenR exA = 1 := rfl
theorem lenB : lenR exB = 1 := rfl
theorem k1 : putK exC MS0 exA 5 = 100 := by
  unfold putK
  rw [if_neg (by rw [mayA]; simp), if_neg (by simp [exA, exC])]
  show (if lt zero exA.s = true then (if exC.B < lenR exA then 6 else 100) else 8) = 100
  rw [if_pos (by rfl), lenA, if_neg (by simp [exC])]
theorem s1_is : putS exC MS0 exA 5 = ex1 := by
  rw [(show putS exC MS0 exA 5 = newer exC MS0 exA by unfold putS; rw [if_pos k1])]
  unfold newer
  have e : woK MS0.L exA.key = [] := rfl
  rw [e, room_stop (by unfold over; rw [lenA]; simp [exC, sizeL])]
  rfl
theorem k2 : putK exC ex1 exB 5 = 100 := by
  unfold putK
  rw [if_neg (by rw [mayB]; simp), if_neg (by simp [exB, exC])]
  have e : findK ex1.L exB.key = none := find_none.2 (fun r hr => by simp [ex1] at hr; rw [hr]; exact ab_ne)
  rw [e]
  show (if lt zero exB.s = true then (if exC.B < lenR exB then 6 else 100) else 8) = 100
  rw [if_pos (by rfl), lenB, if_neg (by simp [exC])]
theorem s2_is : putS exC ex1 exB 5 = ex2 := by
  rw [(show putS exC ex1 exB 5 = newer exC ex1 exB by unfold putS; rw [if_pos k2])]
  unfold newer
  have e : woK ex1.L exB.key = [] ++ [exA] := wo_none (fun r hr => by simp [ex1] at hr; rw [hr]; exact ab_ne)
  rw [e, room_on (by unfold over; left; simp [exC]), room_stop (by unfold over; rw [lenB]; simp [exC, sizeL])]
  rfl
theorem k3 : putK exC ex2 exA 5 = 8 := by
  unfold putK
  rw [if_neg (by rw [mayA]; simp), if_neg (by simp [exA, exC])]
  have e : findK ex2.L exA.key = none := find_none.2 (fun r hr => by simp [ex2] at hr; rw [hr]; exact ba_ne)
  rw [e]
  show (if lt (raise (fun _ => zero) exA (rg exA.key)) exA.s = true then (if exC.B < lenR exA then 6 else 100) else 8) = 8
  have e2 : raise (fun _ => zero) exA (rg exA.key) = exA.s := by unfold raise; rw [if_pos ⟨rfl, by rfl⟩]
  rw [e2, if_neg (by decide)]
theorem s4_is : purgeS exC ex2 14 = ⟨[], raise (fun _ => zero) exA, 1⟩ := rfl
set_option maxHeartbeats 1600000 in
theorem fixed_any (w : World) : Calls Tryz.prog 11 #[] w fun e w' => e = .returned (.bool true) ∧ Kept w w' := by
  have hz := zero27
  have hz3 := zero33
  go_enter Tryz.func11, Tryz.ntmps11
  go_wp2_with fail
  refine (show Calls Tryz.prog 9 #[.int .i64 1, .int .i64 100, .int .i64 10] _ _ from snew_any exC exC_may _).mono ?_
  rintro e w1 ⟨X, F, rfl, k1', hF, h1⟩
  have HF := hid hF
  have HK1 := hid k1'
  have HS1 := hid h1
  clear k1' hF h1
  have HK3 := hid (kept_alloc (kept_alloc HK1.out (.cells #[.string ⟨#[97]⟩, .int .u64 5, .int .u32 0, .int .u8 0, .int .u8 2, .int .u32 0, .int .u64 0, .string ⟨#[]⟩] 42)) (.cells #[.string ⟨#[98]⟩, .int .u64 4, .int .u32 0, .int .u8 0, .int .u8 2, .int .u32 0, .int .u64 0, .string ⟨#[]⟩] 42))
  have HS3 := hid (st_kept HS1.out (kept_alloc (kept_alloc (kept_refl w1) (.cells #[.string ⟨#[97]⟩, .int .u64 5, .int .u32 0, .int .u8 0, .int .u8 2, .int .u32 0, .int .u64 0, .string ⟨#[]⟩] 42)) (.cells #[.string ⟨#[98]⟩, .int .u64 4, .int .u32 0, .int .u8 0, .int .u8 2, .int .u32 0, .int .u64 0, .string ⟨#[]⟩] 42)))
  have HA3 := hid (at_alloc (at_new w1 #[.string ⟨#[97]⟩, .int .u64 5, .int .u32 0, .int .u8 0, .int .u8 2, .int .u32 0, .int .u64 0, .string ⟨#[]⟩] 42) (.cells #[.string ⟨#[98]⟩, .int .u64 4, .int .u32 0, .int .u8 0, .int .u8 2, .int .u32 0, .int .u64 0, .string ⟨#[]⟩] 42))
  have HB3 := hid (at_new (w1.alloc (.cells #[.string ⟨#[97]⟩, .int .u64 5, .int .u32 0, .int .u8 0, .int .u8 2, .int .u32 0, .int .u64 0, .string ⟨#[]⟩] 42)) #[.string ⟨#[98]⟩, .int .u64 4, .int .u32 0, .int .u8 0, .int .u8 2, .int .u32 0, .int .u64 0, .string ⟨#[]⟩] 42)
  have HnA : Hid (¬ F w1.heap.size) := hid (fun hf => by have := st_low HS1.out _ hf; omega)
  have HnB : Hid (¬ F (w1.alloc (.cells #[.string ⟨#[97]⟩, .int .u64 5, .int .u32 0, .int .u8 0, .int .u8 2, .int .u32 0, .int .u64 0, .string ⟨#[]⟩] 42)).heap.size) := hid (fun hf => by have := st_low HS1.out _ hf; simp at this; omega)
  simp only [World.size_alloc] at HB3 HnB
  clear HS1 HK1
  go_wp2_with fail
  generalize (w1.alloc (.cells #[.string ⟨#[97]⟩, .int .u64 5, .int .u32 0, .int .u8 0, .int .u8 2, .int .u32 0, .int .u64 0, .string ⟨#[]⟩] 42)).alloc (.cells #[.string ⟨#[98]⟩, .int .u64 4, .int .u32 0, .int .u8 0, .int .u8 2, .int .u32 0, .int .u64 0, .string ⟨#[]⟩] 42) = w3 at *
  generalize w1.heap.size = A at *
  generalize A + 1 = B at *
  have HLA : Hid (A < w3.heap.size ∧ B < w3.heap.size) := hid ⟨at_lt HA3.out, at_lt HB3.out⟩
  have hP1' : Calls Tryz.prog 14 #[.pointer (some ⟨X, 0, none⟩), .agg #[.string ⟨#[97]⟩, .int .u64 5, .int .u32 0, .int .u8 0, .int .u8 2, .int .u32 0, .int .u64 0, .string ⟨#[]⟩], .int .u64 5] w3 (PutC F X exC MS0 exA 5 w3) := put_any exC_may exA (by decide) (by decide) exA_ok 5 (by decide) (by decide) w3 HS3.out
  refine hP1'.mono ?_
  rintro e w4 ⟨rfl, F4, t4, h4⟩
  obtain ⟨b1, b2, _⟩ := put_100 k1
  rw [b1, b2]
  rw [s1_is] at h4
  have HS4 := hid h4
  have HK4 := hid (kept_tn HK3.out HF.out t4.1)
  have HF4 : Hid (∀ k, F4 k → w.heap.size ≤ k) := hid (fun k hk => by
    rcases t4.2 k hk with z | z
    · exact HF.out k z
    · exact Nat.le_trans HK3.out.2 z)
  have HnA4 : Hid (¬ F4 A) := hid (fun hf => by
    rcases t4.2 A hf with z | z
    · exact HnA.out z
    · have := HLA.out; omega)
  have HnB4 : Hid (¬ F4 B) := hid (fun hf => by
    rcases t4.2 B hf with z | z
    · exact HnB.out z
    · have := HLA.out; omega)
  have HA4 := hid (at_tn HA3.out t4.1 HnA.out)
  have HB4 := hid (at_tn HB3.out t4.1 HnB.out)
  obtain ⟨d0, d1, d2, d3, d4, d5, d6, d7, _⟩ := at_cells8 HB4.out
  clear hP1' t4 h4 b1 b2 HS3 HK3 HA3 HB3 HF HnA HnB HLA
  have hP2 : Calls Tryz.prog 14 #[.pointer (some ⟨X, 0, none⟩), .agg #[.string ⟨#[98]⟩, .int .u64 4, .int .u32 0, .int .u8 0, .int .u8 2, .int .u32 0, .int .u64 0, .string ⟨#[]⟩], .int .u64 5] w4 (PutC F4 X exC ex1 exB 5 w4) := put_any exC_may exB (by decide) (by decide) exB_ok 5 (by decide) (by decide) w4 HS4.out
  go_wp2_with fail
  refine hP2.mono ?_
  rintro e w5 ⟨rfl, F5, t5, h5⟩
  obtain ⟨b1, b2, _⟩ := put_100 k2
  rw [b1, b2]
  rw [s2_is] at h5
  have HS5 := hid h5
  have HK5 := hid (kept_tn HK4.out HF4.out t5.1)
  have HF5 : Hid (∀ k, F5 k → w.heap.size ≤ k) := hid (fun k hk => by
    rcases t5.2 k hk with z | z
    · exact HF4.out k z
    · exact Nat.le_trans HK4.out.2 z)
  have HA5 := hid (at_tn HA4.out t5.1 HnA4.out)
  obtain ⟨a0, a1, a2, a3, a4, a5, a6, a7, _⟩ := at_cells8 HA5.out
  clear hP2 t5 h5 b1 b2 HS4 HK4 HA4 HB4 HF4 HnA4 HnB4 d0 d1 d2 d3 d4 d5 d6 d7
  have hP3 : Calls Tryz.prog 14 #[.pointer (some ⟨X, 0, none⟩), .agg #[.string ⟨#[97]⟩, .int .u64 5, .int .u32 0, .int .u8 0, .int .u8 2, .int .u32 0, .int .u64 0, .string ⟨#[]⟩], .int .u64 5] w5 (PutC F5 X exC ex2 exA 5 w5) := put_any exC_may exA (by decide) (by decide) exA_ok 5 (by decide) (by decide) w5 HS5.out
  go_wp2_with fail
  refine hP3.mono ?_
  rintro e w6 ⟨rfl, F6, t6, h6⟩
  obtain ⟨b1, b2, b3⟩ := put_of k3 (by omega)
  rw [b1, b2]
  rw [b3] at h6
  have HS6 := hid h6
  have HK6 := hid (kept_tn HK5.out HF5.out t6.1)
  have HF6 : Hid (∀ k, F6 k → w.heap.size ≤ k) := hid (fun k hk => by
    rcases t6.2 k hk with z | z
    · exact HF5.out k z
    · exact Nat.le_trans HK5.out.2 z)
  clear hP3 t6 h6 b1 b2 b3 HS5 HK5 HA5 HF5 a0 a1 a2 a3 a4 a5 a6 a7
  go_wp2_with fail
  refine (purge_any exC_may 14 (by decide) w6 HS6.out).mono ?_
  rintro e w7 ⟨rfl, t7, h7⟩
  rw [s4_is] at h7
  have e7 : ((ex2.L.length - (purgeS exC ex2 14).L.length : Nat) : Int) = 1 := rfl
  rw [e7]
  have HS7 := hid h7
  have HK7 := hid (kept_tn HK6.out HF6.out t7)
  clear t7 h7 e7 HS6 HK6 HF6
  go_wp2_with fail
  refine (show Calls Tryz.prog 22 #[.pointer (some ⟨X, 0, none⟩)] w7 (fun e w' => e = .returned (.int .i64 0) ∧ w' = w7) from len_st w7 HS7.out).mono ?_
  rintro e w8 ⟨rfl, rfl⟩
  go_wp2_with fail
  refine (show Calls Tryz.prog 25 #[.pointer (some ⟨X, 0, none⟩)] w8 (fun e w' => e = .returned (.int .i64 1) ∧ w' = w8) from ev_st w8 HS7.out).mono ?_
  rintro e w9 ⟨rfl, rfl⟩
  go_wp2_with fail
  go_ret
  exact ⟨rfl, HK7.out⟩
end Go.Proofs.YthgbdaladngpdaaGreat

/- The arguments opened: a record and a store's bounds handed in by value, rows of calls, of records, of texts. -/
namespace Go.Proofs.YthgbdaladngpdaaGreat
open Go.ChangeShapes Go.WideShapes Go.ChangeAt Go.RowKit Go.Joins Go.Deep
set_option linter.unusedVariables false
set_option linter.unusedSimpArgs false
set_option maxRecDepth 100000

theorem laidOut : laidOutB Tryz.prog = true := by kernel_rfl
theorem readable_of {P : Program} {f : Func} (h : (f.params.toList.all fun t => P.readableRec t && decide (t < P.types.size)) = true) : ∀ t ∈ f.params.toList, P.readableRec t = true ∧ t < P.types.size := by
  intro t ht
  have := List.all_eq_true.1 h t ht
  simpa using this
theorem cells33 : Tryz.prog.cellsOf 33 = 3 := by kernel_rfl
theorem cells42 : Tryz.prog.cellsOf 42 = 8 := by kernel_rfl
theorem cells44 : Tryz.prog.cellsOf 44 = 10 := by kernel_rfl
theorem cells23 : Tryz.prog.cellsOf 23 = 3 := by kernel_rfl
theorem cells9 : Tryz.prog.cellsOf 9 = 1 := by kernel_rfl
theorem cells30 : Tryz.prog.cellsOf 30 = 1 := by kernel_rfl
theorem cells31 : Tryz.prog.cellsOf 31 = 1 := by kernel_rfl
theorem cells5 : Tryz.prog.cellsOf 5 = 1 := by kernel_rfl
theorem cells3 : Tryz.prog.cellsOf 3 = 1 := by kernel_rfl
theorem array8 {α : Type} {cs : Array α} (h : cs.size = 8) : ∃ c0 c1 c2 c3 c4 c5 c6 c7, cs = #[c0, c1, c2, c3, c4, c5, c6, c7] := by
  obtain ⟨l⟩ := cs
  match l, h with
  | [c0, c1, c2, c3, c4, c5, c6, c7], _ => exact ⟨c0, c1, c2, c3, c4, c5, c6, c7, rfl⟩
theorem array3 {α : Type} {cs : Array α} (h : cs.size = 3) : ∃ c0 c1 c2, cs = #[c0, c1, c2] := by
  obtain ⟨l⟩ := cs
  match l, h with
  | [c0, c1, c2], _ => exact ⟨c0, c1, c2, rfl⟩
theorem list6 {α : Type} {l : List α} (h : l.length = 6) : ∃ c0 c1 c2 c3 c4 c5, l = [c0, c1, c2, c3, c4, c5] := by
  match l, h with
  | [c0, c1, c2, c3, c4, c5], _ => exact ⟨c0, c1, c2, c3, c4, c5, rfl⟩
/- A call. -/
structure Opx where
  kind : Int
  r : R
  pass : Int
def Opx.ok (x : Opx) : Prop := (Lit.int .i64 x.kind).wf = true ∧ x.r.ok ∧ 0 ≤ x.pass ∧ x.pass < 256
section
variable {H : Type} {enc : TypeId × Value → H} {w : World} {base : Nat} {spare : Nat → Bool} {held : Bool} {r : Reach} {b0 : Nat} {v : Value} {d : DataW H} {p : List MemPlace}
theorem trod_rec {fuel : Nat} {c0 c1 c2 c3 c4 c5 c6 c7 : Value} {x : DataW H × List MemPlace} (h : DataW.trod enc Tryz.prog w base spare held fuel 42 [c0, c1, c2, c3, c4, c5, c6, c7] = some x) :
    ∃ r : R, c0 = .string r.key ∧ c1 = .int .u64 r.s.p ∧ c2 = .int .u32 r.s.l ∧ c3 = .int .u8 r.s.n ∧ c4 = .int .u8 r.kind ∧ c5 = .int .u32 r.flags ∧ c6 = .int .u64 r.exp ∧ c7 = .string r.body ∧ r.ok := by
  obtain ⟨xs, n, rfl, -, -, hlen, hf⟩ := DataW.trod_struct Tryz.underlying42 h
  obtain ⟨y0, y1, y2, y3, y4, y5, rfl⟩ := list6 hlen
  have h0 : DataW.trod enc Tryz.prog w base spare held n 9 [c0] = some y0 := by have := hf 0 _ rfl; simpa [cells9] using this
  have h1 : DataW.trod enc Tryz.prog w base spare held n 33 [c1, c2, c3] = some y1 := by have := hf 1 _ rfl; simpa [cells33] using this
  have h2 : DataW.trod enc Tryz.prog w base spare held n 5 [c4] = some y2 := by have := hf 2 _ rfl; simpa [cells5] using this
  have h3 : DataW.trod enc Tryz.prog w base spare held n 31 [c5] = some y3 := by have := hf 3 _ rfl; simpa [cells31] using this
  have h4 : DataW.trod enc Tryz.prog w base spare held n 30 [c6] = some y4 := by have := hf 4 _ rfl; simpa [cells30] using this
  have h5 : DataW.trod enc Tryz.prog w base spare held n 9 [c7] = some y5 := by have := hf 5 _ rfl; simpa [cells9] using this
  obtain ⟨z0, z1, z2, n3, -, -, s0, s1, s2⟩ := trod_struct3 Tryz.underlying33 h1
  simp only [cells30, cells31, cells5] at s0 s1 s2
  simp at s0 s1 s2
  obtain ⟨k, e0, -, wk⟩ := DataW.trod_string Tryz.underlying9 h0
  obtain ⟨a, e1, -, wa⟩ := DataW.trod_int Tryz.underlying30 s0
  obtain ⟨b, e2, -, wb⟩ := DataW.trod_int Tryz.underlying31 s1
  obtain ⟨c, e3, -, wc⟩ := DataW.trod_int Tryz.underlying5 s2
  obtain ⟨t, e4, -, wt⟩ := DataW.trod_int Tryz.underlying5 h2
  obtain ⟨f, e5, -, wf⟩ := DataW.trod_int Tryz.underlying31 h3
  obtain ⟨g, e6, -, wg⟩ := DataW.trod_int Tryz.underlying30 h4
  obtain ⟨d, e7, -, wd⟩ := DataW.trod_string Tryz.underlying9 h5
  simp at e0 e1 e2 e3 e4 e5 e6 e7
  subst e0 e1 e2 e3 e4 e5 e6 e7
  have q1 := bounds_u64 wa
  have q2 := bounds_u32 wb
  have q3 := bounds_u8 wc
  have q4 := bounds_u8 wt
  have q5 := bounds_u32 wf
  have q6 := bounds_u64 wg
  refine ⟨⟨k, ⟨a, b, c⟩, t, f, g, d⟩, rfl, rfl, rfl, rfl, rfl, rfl, rfl, rfl, wk, ?_, ?_, ?_, ?_, wd⟩
  · unfold Stp.ok; simp only; omega
  · simp only; omega
  · simp only; omega
  · simp only; omega
theorem trod_op {fuel : Nat} {k c0 c1 c2 c3 c4 c5 c6 c7 t : Value} {x : DataW H × List MemPlace} (h : DataW.trod enc Tryz.prog w base spare held fuel 44 [k, c0, c1, c2, c3, c4, c5, c6, c7, t] = some x) :
    ∃ q : Opx, k = .int .i64 q.kind ∧ c0 = .string q.r.key ∧ c1 = .int .u64 q.r.s.p ∧ c2 = .int .u32 q.r.s.l ∧ c3 = .int .u8 q.r.s.n ∧ c4 = .int .u8 q.r.kind ∧ c5 = .int .u32 q.r.flags ∧ c6 = .int .u64 q.r.exp ∧ c7 = .string q.r.body ∧ t = .int .u8 q.pass ∧ q.ok := by
  obtain ⟨z0, z1, z2, n3, -, -, s0, s1, s2⟩ := trod_struct3 Tryz.underlying44 h
  simp only [cells42, cells3, cells5] at s0 s1 s2
  simp at s0 s1 s2
  obtain ⟨a, e0, -, wa⟩ := DataW.trod_int Tryz.underlying3 s0
  obtain ⟨r, e1, e2, e3, e4, e5, e6, e7, e8, ho⟩ := trod_rec s1
  obtain ⟨b, e9, -, wb⟩ := DataW.trod_int Tryz.underlying5 s2
  simp at e0 e9
  subst e0 e9 e1 e2 e3 e4 e5 e6 e7 e8
  have q := bounds_u8 wb
  exact ⟨⟨a, r, b⟩, rfl, rfl, rfl, rfl, rfl, rfl, rfl, rfl, rfl, rfl, wa, ho, by simp only; omega, by simp only; omega⟩
theorem open_ty42 (hv : Value.okWide Tryz.prog w r b0 42 v) (h : DataW.Trod enc Tryz.prog w base spare held 42 v d p) : ∃ r : R, v = .agg #[.string r.key, .int .u64 r.s.p, .int .u32 r.s.l, .int .u8 r.s.n, .int .u8 r.kind, .int .u32 r.flags, .int .u64 r.exp, .string r.body] ∧ r.ok := by
  obtain ⟨cs, rfl, hsz⟩ := okWide_struct Tryz.underlying42 hv
  obtain ⟨c0, c1, c2, c3, c4, c5, c6, c7, rfl⟩ := array8 (hsz.trans cells42)
  obtain ⟨fuel, hf⟩ := h
  obtain ⟨r, rfl, rfl, rfl, rfl, rfl, rfl, rfl, rfl, ho⟩ := trod_rec (c0 := c0) (c1 := c1) (c2 := c2) (c3 := c3) (c4 := c4) (c5 := c5) (c6 := c6) (c7 := c7) (by simpa [Value.cells] using hf)
  exact ⟨r, rfl, ho⟩
theorem open_ty23 (hv : Value.okWide Tryz.prog w r b0 23 v) (h : DataW.Trod enc Tryz.prog w base spare held 23 v d p) : ∃ n b k : Int, v = .agg #[.int .i64 n, .int .i64 b, .int .i64 k] ∧ (Lit.int .i64 n).wf = true ∧ (Lit.int .i64 b).wf = true ∧ (Lit.int .i64 k).wf = true := by
  obtain ⟨cs, rfl, hsz⟩ := okWide_struct Tryz.underlying23 hv
  obtain ⟨c0, c1, c2, rfl⟩ := array3 (hsz.trans cells23)
  obtain ⟨fuel, hf⟩ := h
  have hf2 : DataW.trod enc Tryz.prog w base spare held fuel 23 [c0, c1, c2] = some (d, p) := by simpa [Value.cells] using hf
  obtain ⟨z0, z1, z2, n3, -, -, s0, s1, s2⟩ := trod_struct3 Tryz.underlying23 hf2
  simp only [cells3] at s0 s1 s2
  simp at s0 s1 s2
  obtain ⟨a, e0, -, wa⟩ := DataW.trod_int Tryz.underlying3 s0
  obtain ⟨b, e1, -, wb⟩ := DataW.trod_int Tryz.underlying3 s1
  obtain ⟨c, e2, -, wc⟩ := DataW.trod_int Tryz.underlying3 s2
  simp at e0 e1 e2
  subst e0 e1 e2
  exact ⟨a, b, c, rfl, wa, wb, wc⟩
theorem cell_lt {w : World} {b o : Nat} {v : Value} (h : w.cell? ⟨b, o, none⟩ = some v) : b < w.heap.size := by
  unfold World.cell? at h
  cases hb : w.heap[b]? with
  | none => simp [hb] at h
  | some x => exact (Array.getElem?_eq_some_iff.1 hb).1
/- A row of calls: its cells. -/
def LiesO (w : World) (b o : Nat) (x : Opx) : Prop := w.cell? ⟨b, o, none⟩ = some (.int .i64 x.kind) ∧ w.cell? ⟨b, o + 1, none⟩ = some (.string x.r.key) ∧ w.cell? ⟨b, o + 2, none⟩ = some (.int .u64 x.r.s.p) ∧ w.cell? ⟨b, o + 3, none⟩ = some (.int .u32 x.r.s.l) ∧ w.cell? ⟨b, o + 4, none⟩ = some (.int .u8 x.r.s.n) ∧ w.cell? ⟨b, o + 5, none⟩ = some (.int .u8 x.r.kind) ∧ w.cell? ⟨b, o + 6, none⟩ = some (.int .u32 x.r.flags) ∧ w.cell? ⟨b, o + 7, none⟩ = some (.int .u64 x.r.exp) ∧ w.cell? ⟨b, o + 8, none⟩ = some (.string x.r.body) ∧ w.cell? ⟨b, o + 9, none⟩ = some (.int .u8 x.pass)
def RowO (w : World) (oa : Option Addr) (len cap b o : Nat) (S : Nat → Opx) : Prop :=
  len ≤ cap ∧ cap ≤ maxLen ∧ (oa = none → cap = 0) ∧ (0 < len → oa = some ⟨b, o, none⟩ ∧ b < w.heap.size) ∧ ∀ i, i < len → (S i).ok ∧ LiesO w b (o + i * 10) (S i)
def RowQ (w : World) (oa : Option Addr) (len cap b o : Nat) (S : Nat → R) : Prop :=
  len ≤ cap ∧ cap ≤ maxLen ∧ (oa = none → cap = 0) ∧ (0 < len → oa = some ⟨b, o, none⟩ ∧ b < w.heap.size) ∧ ∀ i, i < len → (S i).ok ∧ C8 w b (o + i * 8) (S i)
def RowX (w : World) (oa : Option Addr) (len b o : Nat) (S : Nat → ByteArray) : Prop :=
  len ≤ maxLen ∧ (0 < len → oa = some ⟨b, o, none⟩ ∧ b < w.heap.size) ∧ ∀ i, i < len → (S i).size ≤ maxLen ∧ w.cell? ⟨b, o + i, none⟩ = some (.string (S i))
def zeroO : Opx := ⟨0, zeroR, 0⟩
theorem open_ty24 (hv : Value.okWide Tryz.prog w r b0 24 v) (h : DataW.Trod enc Tryz.prog w base spare held 24 v d p) :
    ∃ (oa : Option Addr) (len cap b o : Nat) (S : Nat → Opx), v = .slice oa len cap ∧ RowO w oa len cap b o S := by
  obtain ⟨a, len, cap, rfl⟩ := okWide_slice Tryz.underlying24 hv
  obtain ⟨n, h⟩ := h
  rcases open_slice Tryz.underlying24 h with ⟨h0, -⟩ | ⟨a', len', cap', m, n', D, Pl, h0, hb, hl, hm, hmm, -, hx⟩
  · simp [Value.cells] at h0
    obtain ⟨rfl, rfl, rfl⟩ := h0
    refine ⟨none, 0, 0, 0, 0, fun _ => zeroO, rfl, Nat.le_refl _, by unfold maxLen; omega, fun _ => rfl, fun h => absurd h (by omega), fun i hi => absurd hi (by omega)⟩
  · simp [Value.cells] at h0
    obtain ⟨rfl, rfl, rfl⟩ := h0
    rw [cells44] at hx
    have hlm : len ≤ m := by rw [hmm]; split <;> omega
    have each : ∀ i, i < len → ∃ q : Opx, q.ok ∧ w.cell? (a'.add (i * 10)) = some (.int .i64 q.kind) ∧ w.cell? ((a'.add (i * 10)).add 1) = some (.string q.r.key) ∧ w.cell? ((a'.add (i * 10)).add 2) = some (.int .u64 q.r.s.p) ∧ w.cell? ((a'.add (i * 10)).add 3) = some (.int .u32 q.r.s.l) ∧ w.cell? ((a'.add (i * 10)).add 4) = some (.int .u8 q.r.s.n) ∧ w.cell? ((a'.add (i * 10)).add 5) = some (.int .u8 q.r.kind) ∧ w.cell? ((a'.add (i * 10)).add 6) = some (.int .u32 q.r.flags) ∧ w.cell? ((a'.add (i * 10)).add 7) = some (.int .u64 q.r.exp) ∧ w.cell? ((a'.add (i * 10)).add 8) = some (.string q.r.body) ∧ w.cell? ((a'.add (i * 10)).add 9) = some (.int .u8 q.pass) := by
      intro i hi
      obtain ⟨cs, hc, ht⟩ := hx i (by omega)
      obtain ⟨_, hlen, hcell⟩ := World.cells?_some hc
      match cs, hlen with
      | [k, c0, c1, c2, c3, c4, c5, c6, c7, t], _ =>
        obtain ⟨q, rfl, rfl, rfl, rfl, rfl, rfl, rfl, rfl, rfl, rfl, ho⟩ := trod_op ht
        refine ⟨q, ho, ?_, hcell 1 (by omega), hcell 2 (by omega), hcell 3 (by omega), hcell 4 (by omega), hcell 5 (by omega), hcell 6 (by omega), hcell 7 (by omega), hcell 8 (by omega), hcell 9 (by omega)⟩
        have := hcell 0 (by omega)
        simpa [Addr.add] using this
    have inh : Inhabited Opx := ⟨zeroO⟩
    obtain ⟨f, hf⟩ := choose_lt each
    obtain ⟨b, o, spot⟩ := a'
    have hspot : 0 < len → spot = none := fun hpos => by
      have h0 := (hf 0 hpos).2.1
      simpa [Addr.add] using World.cell?_spot h0
    refine ⟨some ⟨b, o, spot⟩, len, cap, b, o, f, rfl, hl, hm, (fun h => by cases h), fun hpos => ?_, fun i hi => ?_⟩
    · have h0 := (hf 0 hpos).2.1
      have := hspot hpos
      subst this
      refine ⟨rfl, ?_⟩
      have : (Addr.add ⟨b, o, none⟩ (0 * 10)) = ⟨b, o, none⟩ := by simp [Addr.add]
      rw [this] at h0
      exact cell_lt h0
    · have hpos : 0 < len := by omega
      have := hspot hpos
      subst this
      obtain ⟨g0, g1, g2, g3, g4, g5, g6, g7, g8, g9, g10⟩ := hf i hi
      rw [add_add] at g2 g3 g4 g5 g6 g7 g8 g9 g10
      rw [add_plain] at g1 g2 g3 g4 g5 g6 g7 g8 g9 g10
      exact ⟨g0, g1, g2, g3, g4, g5, g6, g7, g8, g9, g10⟩
theorem open_ty29 (hv : Value.okWide Tryz.prog w r b0 29 v) (h : DataW.Trod enc Tryz.prog w base spare held 29 v d p) :
    ∃ (oa : Option Addr) (len cap b o : Nat) (S : Nat → R), v = .slice oa len cap ∧ RowQ w oa len cap b o S := by
  obtain ⟨a, len, cap, rfl⟩ := okWide_slice Tryz.underlying29 hv
  obtain ⟨n, h⟩ := h
  rcases open_slice Tryz.underlying29 h with ⟨h0, -⟩ | ⟨a', len', cap', m, n', D, Pl, h0, hb, hl, hm, hmm, -, hx⟩
  · simp [Value.cells] at h0
    obtain ⟨rfl, rfl, rfl⟩ := h0
    refine ⟨none, 0, 0, 0, 0, fun _ => zeroR, rfl, Nat.le_refl _, by unfold maxLen; omega, fun _ => rfl, fun h => absurd h (by omega), fun i hi => absurd hi (by omega)⟩
  · simp [Value.cells] at h0
    obtain ⟨rfl, rfl, rfl⟩ := h0
    rw [cells42] at hx
    have hlm : len ≤ m := by rw [hmm]; split <;> omega
    have each : ∀ i, i < len → ∃ q : R, q.ok ∧ w.cell? (a'.add (i * 8)) = some (.string q.key) ∧ w.cell? ((a'.add (i * 8)).add 1) = some (.int .u64 q.s.p) ∧ w.cell? ((a'.add (i * 8)).add 2) = some (.int .u32 q.s.l) ∧ w.cell? ((a'.add (i * 8)).add 3) = some (.int .u8 q.s.n) ∧ w.cell? ((a'.add (i * 8)).add 4) = some (.int .u8 q.kind) ∧ w.cell? ((a'.add (i * 8)).add 5) = some (.int .u32 q.flags) ∧ w.cell? ((a'.add (i * 8)).add 6) = some (.int .u64 q.exp) ∧ w.cell? ((a'.add (i * 8)).add 7) = some (.string q.body) := by
      intro i hi
      obtain ⟨cs, hc, ht⟩ := hx i (by omega)
      obtain ⟨_, hlen, hcell⟩ := World.cells?_some hc
      match cs, hlen with
      | [c0, c1, c2, c3, c4, c5, c6, c7], _ =>
        obtain ⟨q, rfl, rfl, rfl, rfl, rfl, rfl, rfl, rfl, ho⟩ := trod_rec ht
        refine ⟨q, ho, ?_, hcell 1 (by omega), hcell 2 (by omega), hcell 3 (by omega), hcell 4 (by omega), hcell 5 (by omega), hcell 6 (by omega), hcell 7 (by omega)⟩
        have := hcell 0 (by omega)
        simpa [Addr.add] using this
    have inh : Inhabited R := ⟨zeroR⟩
    obtain ⟨f, hf⟩ := choose_lt each
    obtain ⟨b, o, spot⟩ := a'
    have hspot : 0 < len → spot = none := fun hpos => by
      have h0 := (hf 0 hpos).2.1
      simpa [Addr.add] using World.cell?_spot h0
    refine ⟨some ⟨b, o, spot⟩, len, cap, b, o, f, rfl, hl, hm, (fun h => by cases h), fun hpos => ?_, fun i hi => ?_⟩
    · have h0 := (hf 0 hpos).2.1
      have := hspot hpos
      subst this
      refine ⟨rfl, ?_⟩
      have : (Addr.add ⟨b, o, none⟩ (0 * 8)) = ⟨b, o, none⟩ := by simp [Addr.add]
      rw [this] at h0
      exact cell_lt h0
    · have hpos : 0 < len := by omega
      have := hspot hpos
      subst this
      obtain ⟨g0, g1, g2, g3, g4, g5, g6, g7, g8⟩ := hf i hi
      rw [add_add] at g2 g3 g4 g5 g6 g7 g8
      rw [add_plain] at g1 g2 g3 g4 g5 g6 g7 g8
      exact ⟨g0, g1, g2, g3, g4, g5, g6, g7, g8⟩
theorem open_ty67 (hv : Value.okWide Tryz.prog w r b0 67 v) (h : DataW.Trod enc Tryz.prog w base spare held 67 v d p) :
    ∃ (oa : Option Addr) (len cap b o : Nat) (S : Nat → ByteArray), v = .slice oa len cap ∧ RowX w oa len b o S := by
  obtain ⟨a, len, cap, rfl⟩ := okWide_slice Tryz.underlying67 hv
  obtain ⟨n, h⟩ := h
  rcases open_strings Tryz.underlying67 Tryz.underlying9 (by kernel_rfl) h with ⟨h0, -⟩ | ⟨a', len', cap', ss, h0, hb, hl, hm, hlen, -, hc, hss⟩
  · simp [Value.cells] at h0
    obtain ⟨rfl, rfl, rfl⟩ := h0
    exact ⟨none, 0, 0, 0, 0, fun _ => ⟨#[]⟩, rfl, by unfold maxLen; omega, fun h => absurd h (by omega), fun i hi => absurd hi (by omega)⟩
  · simp [Value.cells] at h0
    obtain ⟨rfl, rfl, rfl⟩ := h0
    have hge : len ≤ ss.length := by rw [hlen]; split <;> omega
    obtain ⟨b, o, spot⟩ := a'
    have hspot : 0 < len → spot = none := fun hpos => by
      have h0 := hc 0 (by omega)
      simpa [Addr.add] using World.cell?_spot h0
    refine ⟨_, len, cap, b, o, fun i => ss.getD i ByteArray.empty, rfl, by omega, fun hpos => ?_, fun i hi => ?_⟩
    · have h0 := hc 0 (by omega)
      have := hspot hpos
      subst this
      refine ⟨rfl, ?_⟩
      have : (Addr.add ⟨b, o, none⟩ 0) = ⟨b, o, none⟩ := by simp [Addr.add]
      rw [this] at h0
      exact cell_lt h0
    · have := hspot (by omega)
      subst this
      have h1 := hc i (by omega)
      rw [add_plain] at h1
      refine ⟨?_, h1⟩
      have hi2 : i < ss.length := by omega
      have : ss.getD i ByteArray.empty = ss[i] := by simp [List.getD, List.getElem?_eq_getElem hi2]
      show (ss.getD i ByteArray.empty).size ≤ maxLen
      rw [this]
      exact hss _ (List.getElem_mem hi2)
end
end Go.Proofs.YthgbdaladngpdaaGreat

/- More plain mathematics of a store, for its laws: ranges by rising keys, sums over all ranges; that it never goes backwards; that it is the same in any order. No condition but those that are stated. -/
namespace Go.Proofs.YthgbdaladngpdaaGreat
set_option linter.unusedVariables false
set_option linter.unusedSimpArgs false

/- Rows by rising keys. -/
def ltK (a b : R) : Prop := cmpB a.key b.key < 0
theorem ltK_trans {a b d : R} (h : ltK a b) (k : ltK b d) : ltK a d := by
  unfold ltK at *
  exact (good_bytes.tr a.key b.key d.key (by omega) (by omega)).2.2 (.inl h)
theorem ltK_irr {a b : R} (h : ltK a b) (k : ltK b a) : False := by
  unfold ltK at *
  have := good_bytes.neg a.key b.key
  omega
theorem ltK_tot {a b : R} (h : ¬ ltK a b) (hn : a.key ≠ b.key) : ltK b a := by
  unfold ltK at *
  have h1 := good_bytes.neg a.key b.key
  have h2 := good_bytes.one a.key b.key
  have h3 := cmpB_zero a.key b.key
  rcases h2 with h2 | h2 | h2
  · omega
  · exact absurd (h3.1 h2) hn
  · omega
def insK (x : R) : List R → List R
  | [] => [x]
  | y :: l => if cmpB y.key x.key < 0 then y :: insK x l else x :: y :: l
theorem insK_perm (x : R) : ∀ l, (insK x l).Perm (x :: l)
  | [] => List.Perm.refl _
  | y :: l => by
    rw [insK]
    split
    · exact ((insK_perm x l).cons y).trans (List.Perm.swap x y l)
    · exact List.Perm.refl _
def Up (l : List R) : Prop := l.Pairwise ltK
theorem up_ins {x : R} : ∀ {l : List R}, Up l → (∀ y ∈ l, y.key ≠ x.key) → Up (insK x l)
  | [], _, _ => List.pairwise_singleton _ _
  | y :: l, h, hn => by
    obtain ⟨h1, h2⟩ := List.pairwise_cons.1 h
    rw [insK]
    split
    · rename_i hlt
      refine List.pairwise_cons.2 ⟨fun z hz => ?_, up_ins h2 (fun z hz => hn z (List.mem_cons_of_mem _ hz))⟩
      rcases List.mem_cons.1 ((insK_perm x l).mem_iff.1 hz) with e | hz
      · rw [e]; exact hlt
      · exact h1 z hz
    · rename_i hlt
      have hx : ltK x y := ltK_tot hlt (hn y List.mem_cons_self)
      refine List.pairwise_cons.2 ⟨fun z hz => ?_, h⟩
      rcases List.mem_cons.1 hz with e | hz
      · rw [e]; exact hx
      · exact ltK_trans hx (h1 z hz)
theorem up_unique : ∀ {a b : List R}, a.Perm b → Up a → Up b → a = b
  | [], b, h, _, _ => (List.nil_perm.1 h).symm
  | x :: a, [], h, _, _ => by have := h.length_eq; simp at this
  | x :: a, y :: b, h, ha, hb => by
    obtain ⟨a1, a2⟩ := List.pairwise_cons.1 ha
    obtain ⟨b1, b2⟩ := List.pairwise_cons.1 hb
    have e : x = y := by
      rcases List.mem_cons.1 (h.mem_iff.1 List.mem_cons_self) with e | hx
      · exact e
      · rcases List.mem_cons.1 (h.mem_iff.2 (List.mem_cons_self : y ∈ y :: b)) with e | hy
        · exact e.symm
        · exact absurd (ltK_irr (b1 x hx) (a1 y hy)) (by simp)
    subst e
    rw [up_unique (List.perm_cons x |>.1 h) a2 b2]
def sortK (l : List R) : List R := l.foldl (fun o x => insK x o) []
theorem sort_gen : ∀ (l o : List R), Up o → Keys (o ++ l) → Up (l.foldl (fun o x => insK x o) o) ∧ (l.foldl (fun o x => insK x o) o).Perm (o ++ l)
  | [], o, h, _ => ⟨h, by simp⟩
  | x :: l, o, h, hk => by
    have hp : (o ++ x :: l).Perm (insK x o ++ l) := by
      refine (List.perm_middle).trans ?_
      exact ((insK_perm x o).symm.append_right l)
    have hk2 : Keys (insK x o ++ l) := (hp.pairwise_iff (R := fun a b : R => a.key ≠ b.key) (fun {_ _} g => Ne.symm g)).1 hk
    have hu : Up (insK x o) := up_ins h (fun y hy => (List.pairwise_append.1 hk).2.2 y hy x List.mem_cons_self)
    obtain ⟨g1, g2⟩ := sort_gen l (insK x o) hu hk2
    exact ⟨g1, g2.trans hp.symm⟩
theorem sortK_up {l : List R} (h : Keys l) : Up (sortK l) := (sort_gen l [] List.Pairwise.nil (by simpa using h)).1
theorem sortK_perm {l : List R} (h : Keys l) : (sortK l).Perm l := by
  unfold sortK
  simpa using (sort_gen l [] List.Pairwise.nil (by simpa using h)).2
def inR (k : Int) (r : R) : Bool := decide ((rg r.key : Int) = k)
def rangeL (k : Int) (L : List R) : List R := sortK (L.filter (inR k))
theorem range_perm {k : Int} {L : List R} (h : Keys L) : (rangeL k L).Perm (L.filter (inR k)) := sortK_perm (h.filter _)
theorem range_up {k : Int} {L : List R} (h : Keys L) : Up (rangeL k L) := sortK_up (h.filter _)
theorem range_is {k : Int} {L T : List R} (h : Keys L) (hp : T.Perm (L.filter (inR k))) (hu : Up T) : T = rangeL k L := up_unique (hp.trans (range_perm h).symm) hu (range_up h)
theorem keys_perm {a b : List R} (h : a.Perm b) (k : Keys a) : Keys b := (h.pairwise_iff (R := fun a b : R => a.key ≠ b.key) (fun {_ _} g => Ne.symm g)).1 k
theorem range_of {k : Int} {L L' : List R} (h : Keys L) (hp : L.Perm L') : rangeL k L = rangeL k L' :=
  up_unique ((range_perm h).trans ((hp.filter _).trans (range_perm (keys_perm hp h)).symm)) (range_up h) (range_up (keys_perm hp h))
theorem range_none {k : Int} {L : List R} (h : ¬ (0 ≤ k ∧ k < 64)) : rangeL k L = [] := by
  have : L.filter (inR k) = [] := by
    rw [List.filter_eq_nil_iff]
    intro r _
    have := rg_lt r.key
    unfold inR
    simp
    omega
  unfold rangeL
  rw [this]; rfl
/- Sums over the ranges below one. -/
def belowR (k : Nat) (r : R) : Bool := decide (rg r.key < k)
theorem below_next (k : Nat) : ∀ L : List R, sizeL (L.filter (belowR (k + 1))) = sizeL (L.filter (belowR k)) + sizeL (L.filter (inR (k : Int))) ∧ (L.filter (belowR (k + 1))).length = (L.filter (belowR k)).length + (L.filter (inR (k : Int))).length
  | [] => ⟨rfl, rfl⟩
  | r :: L => by
    obtain ⟨h1, h2⟩ := below_next k L
    by_cases e1 : rg r.key < k
    · rw [List.filter_cons_of_pos (p := belowR (k + 1)) (by unfold belowR; simp; omega), List.filter_cons_of_pos (p := belowR k) (by unfold belowR; simpa using e1), List.filter_cons_of_neg (p := inR (k : Int)) (by unfold inR; simp; omega)]
      simp only [sizeL, List.length_cons]
      omega
    · by_cases e2 : rg r.key = k
      · rw [List.filter_cons_of_pos (p := belowR (k + 1)) (by unfold belowR; simp; omega), List.filter_cons_of_neg (p := belowR k) (by unfold belowR; simpa using e1), List.filter_cons_of_pos (p := inR (k : Int)) (by unfold inR; simp; omega)]
        simp only [sizeL, List.length_cons]
        omega
      · rw [List.filter_cons_of_neg (p := belowR (k + 1)) (by unfold belowR; simp; omega), List.filter_cons_of_neg (p := belowR k) (by unfold belowR; simpa using e1), List.filter_cons_of_neg (p := inR (k : Int)) (by unfold inR; simp; omega)]
        exact ⟨h1, h2⟩
theorem below_all (L : List R) : L.filter (belowR 64) = L := by
  rw [List.filter_eq_self]
  intro r _
  unfold belowR
  simpa using rg_lt r.key
theorem below_none (L : List R) : L.filter (belowR 0) = [] := by
  rw [List.filter_eq_nil_iff]
  intro r _
  unfold belowR
  simp
theorem range_sums {k : Nat} {L : List R} (h : Keys L) : sizeL (L.filter (belowR (k + 1))) = sizeL (L.filter (belowR k)) + sizeL (rangeL (k : Int) L) ∧ (L.filter (belowR (k + 1))).length = (L.filter (belowR k)).length + (rangeL (k : Int) L).length := by
  rw [sizeL_perm (range_perm h), (range_perm h).length_eq]
  exact below_next k L

/- Never backwards. -/
theorem cmp_of_rec {a b : R} (h : cmpR a b ≤ 0) : cmp a.s b.s ≤ 0 := by
  unfold cmpR orI at h
  split at h
  · omega
  · exact h
theorem cmp_rec {a b : R} (h : cmp a.s b.s < 0) : cmpR a b < 0 := by
  unfold cmpR orI
  rw [if_neg (by omega)]; exact h
theorem cmp_p {a b : Stp} (h : a.p < b.p) : cmp a b < 0 := by
  rw [← lt_cmp, lt_iff]; exact .inl h
theorem cmp_le_p {a b : Stp} (h : cmp a b ≤ 0) : a.p ≤ b.p := by
  rcases cmp_parts a b with ⟨h', e⟩ | ⟨h', e⟩ | ⟨h', e⟩
  · unfold Lt at h'; omega
  · subst h'; omega
  · omega
theorem raise_up (f : Nat → Stp) (r : R) (k : Nat) : cmp (f k) (raise f r k) ≤ 0 := by
  unfold raise
  split
  · rename_i h; have := lt_cmp.1 h.2; omega
  · rw [cmp_self]; omega
theorem raise_at (f : Nat → Stp) (r : R) : cmp r.s (raise f r (rg r.key)) ≤ 0 := by
  unfold raise
  split
  · rw [cmp_self]; omega
  · rename_i h
    have h1 : ¬ cmp (f (rg r.key)) r.s < 0 := fun g => h ⟨rfl, lt_cmp.2 g⟩
    have h2 := cmp_neg (f (rg r.key)) r.s
    omega
theorem cmp_tr {a b d : Stp} (h : cmp a b ≤ 0) (k : cmp b d ≤ 0) : cmp a d ≤ 0 := (good_stamp.tr a b d h k).1
/- What a key had stands ahead of nothing that it has; where it has nothing, a floor or the time stands behind it. -/
def Past (c : Cf) (s : MS) (now : Int) (q : R) : Prop := (∀ r ∈ s.L, r.key = q.key → cmpR q r ≤ 0) ∧ ((∀ r ∈ s.L, r.key ≠ q.key) → cmp q.s (s.fl (rg q.key)) ≤ 0 ∨ q.s.p + (c.K : Int) ≤ now)
theorem past_now {c : Cf} {s : MS} {now now' : Int} {q : R} (h : Past c s now q) (hn : now ≤ now') : Past c s now' q :=
  ⟨h.1, fun g => (h.2 g).imp id (fun g => by omega)⟩
theorem past_here {c : Cf} {s : MS} {now : Int} (hk : Keys s.L) {q : R} (hq : q ∈ s.L) : Past c s now q :=
  ⟨fun r hr e => by rw [keys_eq hk hr hq e, cmpR_self]; omega, fun g => absurd rfl (g q hq)⟩
theorem past_get {c : Cf} {s : MS} {now : Int} (hk : Keys s.L) (k : ByteArray) {q : R} (h : Past c s now q) : Past c (getS s k) now q := by
  unfold getS
  split
  · rename_i x hx
    obtain ⟨h1, rfl⟩ := find_some hx
    have hp := woK_perm hk h1
    exact ⟨fun r hr e => h.1 r (hp.mem_iff.2 hr) e, fun g => h.2 (fun r hr => g r (hp.mem_iff.1 hr))⟩
  · exact h
theorem past_purge {c : Cf} {s : MS} {now : Int} {q : R} (h : Past c s now q) : Past c (purgeS c s now) now q := by
  unfold purgeS
  refine ⟨fun r hr e => h.1 r (List.mem_filter.1 hr).1 e, fun g => ?_⟩
  by_cases hx : ∃ r ∈ s.L, r.key = q.key
  · obtain ⟨r, hr, e⟩ := hx
    have hn : ¬ now < r.s.p + (c.K : Int) := fun hlt => g r (List.mem_filter.2 ⟨hr, by simpa using hlt⟩) e
    have := cmp_le_p (cmp_of_rec (h.1 r hr e))
    right; omega
  · exact h.2 (fun r hr e => hx ⟨r, hr, e⟩)
theorem past_room {c : Cf} {s : MS} {b : Nat} (hc : c.may) (hb : b ≤ c.B) {now : Int} {q : R} (h : Past c s now q) : Past c (room c b s) now q := by
  refine (room_ind (fun s => Past c s now q) (fun L r f e h _ => ?_) hc hb _ s rfl h).1
  refine ⟨fun x hx ex => h.1 x (List.mem_append_left _ hx) ex, fun g => ?_⟩
  by_cases er : r.key = q.key
  · left
    have h1 := cmp_of_rec (h.1 r (by simp) er)
    have h2 := raise_at f r
    rw [er] at h2
    exact cmp_tr h1 h2
  · rcases h.2 (fun x hx => by
      rcases List.mem_append.1 hx with hx | hx
      · exact g x hx
      · simp at hx; rw [hx]; exact er) with h1 | h1
    · left; exact cmp_tr h1 (raise_up f r _)
    · right; exact h1
theorem past_put {c : Cf} {s : MS} (hc : c.may) (hk : Keys s.L) {r : R} {now : Int} {q : R} (h : Past c s now q) : Past c (putS c s r now) now q := by
  unfold putS
  split
  · rename_i h100
    obtain ⟨hm, hb, hnow⟩ := putK_100 h100
    have hge : r.key = q.key → cmpR q r ≤ 0 := by
      intro e
      unfold putK at h100
      rw [if_neg (by simp [hm]), if_neg (by omega)] at h100
      cases hf : findK s.L r.key with
      | some x =>
        rw [hf] at h100
        simp only at h100
        obtain ⟨x1, x2⟩ := find_some hf
        have h1 := h.1 x x1 (x2.trans e)
        have h2 := good_rec.neg r x
        have h3 : cmpR x r ≤ 0 := by
          split at h100
          · omega
          · split at h100
            · omega
            · omega
        exact cmpR_trans h1 h3
      | none =>
        rw [hf] at h100
        simp only at h100
        have hl : lt (s.fl (rg r.key)) r.s = true := by
          split at h100
          · assumption
          · omega
        rcases h.2 (fun x hx => by rw [← e]; exact find_none.1 hf x hx) with h1 | h1
        · have h2 := lt_cmp.1 hl
          rw [e] at h2
          have := (good_stamp.tr q.s (s.fl (rg q.key)) r.s h1 (by omega)).2.2 (.inr h2)
          have := cmp_rec this
          omega
        · have := cmp_rec (cmp_p (show q.s.p < r.s.p by omega))
          omega
    by_cases e : r.key = q.key
    · refine ⟨fun x hx ex => ?_, fun g => absurd e (g r List.mem_cons_self)⟩
      rcases List.mem_cons.1 hx with e2 | hx
      · rw [e2]; exact hge e
      · obtain ⟨t, ht⟩ := room_pre hc hb ⟨woK s.L r.key, s.fl, s.ev⟩
        have : x ∈ woK s.L r.key := by rw [show woK s.L r.key = _ from ht]; exact List.mem_append_left _ hx
        exact absurd (ex.trans e.symm) (woK_mem.1 this).2
    · have h0 : Past c ⟨woK s.L r.key, s.fl, s.ev⟩ now q := ⟨fun x hx ex => h.1 x (woK_mem.1 hx).1 ex, fun g => h.2 (fun x hx ex => g x (woK_mem.2 ⟨hx, by rw [ex]; exact Ne.symm e⟩) ex)⟩
      have h1 := past_room hc hb h0
      unfold newer
      refine ⟨fun x hx ex => ?_, fun g => h1.2 (fun x hx => g x (List.mem_cons_of_mem _ hx))⟩
      rcases List.mem_cons.1 hx with e2 | hx
      · rw [e2] at ex; exact absurd ex e
      · exact h1.1 x hx ex
  · exact h

/- The same in any order. -/
def acc (r : R) : Prop := mayR r = true ∧ lt zero r.s = true
structure Any (P : R → Prop) (s : MS) : Prop where
  fl : s.fl = fun _ => zero
  sub : ∀ x ∈ s.L, P x ∧ acc x
  cov : ∀ y, P y → acc y → ∃ x ∈ s.L, x.key = y.key ∧ cmpR y x ≤ 0
theorem any_new : Any (fun _ => False) MS0 := ⟨rfl, fun x hx => by simp [MS0] at hx, fun y h => absurd h (by simp)⟩
theorem any_same {P Q : R → Prop} {s t : MS} (h : Any P s) (k : Any Q t) (e : ∀ x, P x ↔ Q x) (hs : Keys s.L) (ht : Keys t.L) : ∀ x, x ∈ s.L → x ∈ t.L := by
  intro x hx
  obtain ⟨x1, x2⟩ := h.sub x hx
  obtain ⟨y, hy, yk, yc⟩ := k.cov x ((e x).1 x1) x2
  obtain ⟨y1, y2⟩ := k.sub y hy
  obtain ⟨z, hz, zk, zc⟩ := h.cov y ((e y).2 y1) y2
  have : z = x := keys_eq hs hz hx (zk.trans yk)
  subst this
  have h1 := good_rec.neg y z
  rw [cmpR_eq yk.symm (show cmpR z y = 0 by omega)]
  exact hy
theorem keys_nodup {L : List R} (h : Keys L) : L.Nodup := h.imp (fun g e => g (by rw [e]))
theorem nodup_sub : ∀ {L P : List R}, L.Nodup → (∀ x ∈ L, x ∈ P) → L.length ≤ P.length
  | [], P, _, _ => Nat.zero_le _
  | x :: L, P, h, hs => by
    obtain ⟨h1, h2⟩ := List.nodup_cons.1 h
    obtain ⟨a, b, rfl⟩ := List.append_of_mem (hs x List.mem_cons_self)
    have := nodup_sub (P := a ++ b) h2 (fun y hy => by
      have := hs y (List.mem_cons_of_mem _ hy)
      simp at this ⊢
      rcases this with g | g | g
      · exact .inl g
      · rw [g] at hy; exact absurd hy h1
      · exact .inr g)
    simp at this ⊢
    omega
theorem any_put {c : Cf} {P : R → Prop} {s : MS} (h : Any P s) (hf : Fit c s) (hc : c.may) (hB : c.B = 1048576) (hn : c.n = 64) (hL : s.L.length < 62) (r : R) (hr : r.ok) : Any (fun x => P x ∨ x = r) (putS c s r 0) := by
  have hsz := size_bound s.L hf.may
  have hc5 := hc.2.2.2.2.1
  have hbad : ¬ acc r → Any (fun x => P x ∨ x = r) s := fun ha => ⟨h.fl, fun x hx => ⟨.inl (h.sub x hx).1, (h.sub x hx).2⟩, fun y hy ya => by
    rcases hy with hy | hy
    · exact h.cov y hy ya
    · rw [hy] at ya; exact absurd ya ha⟩
  have hput : mayR r = true → lt zero r.s = true → (∀ q ∈ s.L, q.key = r.key → cmpR q r ≤ 0) → Any (fun x => P x ∨ x = r) (newer c s r) := fun hm hlt hge => by
    have hlen := may_len hm
    have hro : room c (lenR r) ⟨woK s.L r.key, s.fl, s.ev⟩ = ⟨woK s.L r.key, s.fl, s.ev⟩ := room_stop (by
      unfold over
      have := wo_len s.L r.key
      have := wo_size s.L r.key
      show ¬ (c.n ≤ (woK s.L r.key).length ∨ c.B < sizeL (woK s.L r.key) + lenR r)
      omega)
    unfold newer
    rw [hro]
    refine ⟨h.fl, fun x hx => ?_, fun y hy ya => ?_⟩
    · rcases List.mem_cons.1 hx with e | hx
      · rw [e]; exact ⟨.inr rfl, hm, hlt⟩
      · have := h.sub x (woK_mem.1 hx).1
        exact ⟨.inl this.1, this.2⟩
    · rcases hy with hy | hy
      · obtain ⟨x, hx, xk, xc⟩ := h.cov y hy ya
        by_cases e : x.key = r.key
        · exact ⟨r, List.mem_cons_self, by rw [← xk, e], cmpR_trans xc (hge x hx e)⟩
        · exact ⟨x, List.mem_cons_of_mem _ (woK_mem.2 ⟨hx, e⟩), xk, xc⟩
      · exact ⟨r, List.mem_cons_self, by rw [hy], by rw [hy, cmpR_self]; omega⟩
  by_cases hm : mayR r = true
  · have hlen := may_len hm
    have hnow : ¬ r.s.p + (c.K : Int) ≤ 0 := by have := hr.2.1.1; omega
    cases hfd : findK s.L r.key with
    | some q =>
      obtain ⟨q1, q2⟩ := find_some hfd
      have hk : putK c s r 0 = if cmpR r q = 0 then 0 else if cmpR r q < 0 then 8 else if c.B < lenR r then 6 else 100 := by
        unfold putK
        rw [if_neg (by simp [hm]), if_neg hnow, hfd]
      have hq := h.sub q q1
      have hneg := good_rec.neg r q
      by_cases hle : cmpR r q ≤ 0
      · have h100 : putK c s r 0 ≠ 100 := by
          rw [hk]; split
          · omega
          · rw [if_pos (by omega)]; omega
        unfold putS
        rw [if_neg h100]
        refine ⟨h.fl, fun x hx => ⟨.inl (h.sub x hx).1, (h.sub x hx).2⟩, fun y hy ya => ?_⟩
        rcases hy with hy | hy
        · exact h.cov y hy ya
        · exact ⟨q, q1, by rw [hy]; exact q2, by rw [hy]; exact hle⟩
      · have h100 : putK c s r 0 = 100 := by
          rw [hk, if_neg (by omega), if_neg (by omega), if_neg (by omega)]
        unfold putS
        rw [if_pos h100]
        refine hput hm ?_ (fun x hx e => ?_)
        · rw [lt_cmp]
          have h1 := lt_cmp.1 hq.2.2
          have h3 := cmp_of_rec (show cmpR q r ≤ 0 by omega)
          exact (good_stamp.tr zero q.s r.s (by omega) h3).2.2 (.inl h1)
        · rw [keys_eq hf.keys hx q1 (e.trans q2.symm)]; omega
    | none =>
      have hno := find_none.1 hfd
      have hk : putK c s r 0 = if lt (s.fl (rg r.key)) r.s = true then (if c.B < lenR r then 6 else 100) else 8 := by
        unfold putK
        rw [if_neg (by simp [hm]), if_neg hnow, hfd]
      rw [h.fl] at hk
      by_cases hlt : lt zero r.s = true
      · have h100 : putK c s r 0 = 100 := by rw [hk]; simp only [hlt, if_true]; rw [if_neg (by omega)]
        unfold putS
        rw [if_pos h100]
        exact hput hm hlt (fun x hx e => absurd e (hno x hx))
      · have h100 : putK c s r 0 ≠ 100 := by rw [hk]; simp only [hlt]; simp
        unfold putS
        rw [if_neg h100]
        exact hbad (fun ha => hlt ha.2)
  · have h100 : putK c s r 0 ≠ 100 := by
      unfold putK
      rw [if_pos (by simpa using hm)]
      omega
    unfold putS
    rw [if_neg h100]
    exact hbad (fun ha => hm ha.1)
end Go.Proofs.YthgbdaladngpdaaGreat
