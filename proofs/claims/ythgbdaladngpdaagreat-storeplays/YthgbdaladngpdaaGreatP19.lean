/- The library's sort at records by their keys, off the shelf; the contract of the function that it is handed. A row has at most 1000 records, of unlike keys. The contract of Range: a range's records by rising keys, in a row of one's own. The store has at most 500 records. What the laws share: the row of calls as it is cut, two rows of records that are the same, the reference's range. The reference's store as a value of 197 cells: a row of records, 64 floors, the bounds, a count. The contracts of the reference's order of records: which text stands ahead, which record does, how two stand to each o -/
import Derived.Test.YthgbdaladngpdaaGreatP18
import Derived.BigQuiet
import Derived.Deep.MidRow
import Derived.Deep.WholeRow
/- The library's sort at records by their keys, off the shelf; the contract of the function that it is handed. A row has at most 1000 records, of unlike keys. -/
namespace Go.Proofs.YthgbdaladngpdaaGreat
open Go.ChangeShapes Go.WideShapes Go.ChangeAt Go.RowKit Go.Shelf Go.Lib
set_option linter.unusedVariables false
set_option linter.unusedSimpArgs false
set_option maxRecDepth 100000

theorem add_zero_plain (b j : Nat) : (⟨b, 0, none⟩ : Addr).add j = ⟨b, j, none⟩ := by
  rcases j with _ | j <;> simp [Addr.add]
/- A row of records, cell by cell. -/
def cellsL (r : R) : List Value := [.string r.key, .int .u64 r.s.p, .int .u32 r.s.l, .int .u8 r.s.n, .int .u8 r.kind, .int .u32 r.flags, .int .u64 r.exp, .string r.body]
def flat (L : List R) : List Value := L.flatMap cellsL
theorem flat_snoc (L : List R) (r : R) : flat (L ++ [r]) = flat L ++ cellsL r := by simp [flat]
theorem flat_get : ∀ (L : List R) (j i : Nat) (hj : j < L.length), i < 8 → (flat L)[j * 8 + i]? = (cellsL L[j])[i]?
  | r :: L, 0, i, _, hi => by
    show (cellsL r ++ flat L)[0 * 8 + i]? = _
    rw [List.getElem?_append_left (by simp [cellsL]; omega)]
    simp
  | r :: L, j + 1, i, hj, hi => by
    have ih := flat_get L j i (by simpa using hj) hi
    show (cellsL r ++ flat L)[(j + 1) * 8 + i]? = _
    rw [List.getElem?_append_right (by simp [cellsL]; omega)]
    have : (j + 1) * 8 + i - (cellsL r).length = j * 8 + i := by simp [cellsL]; omega
    rw [this, ih]
    simp
theorem own_c8 {w : World} {B g cap n : Nat} {L : List R} (h : w.ownsRow B 42 8 (.slice (some ⟨g, 0, none⟩) n cap) n (flat L)) (j : Nat) (hj : j < L.length) : C8 w g (j * 8) L[j] := by
  have hc : ∀ i u, i < 8 → (cellsL L[j])[i]? = some u → w.cell? ⟨g, j * 8 + i, none⟩ = some u := fun i u hi hu => by
    have := h.cells (g := g) rfl (j * 8 + i) u (by rw [flat_get L j i hj hi]; exact hu)
    rwa [add_zero_plain] at this
  exact ⟨hc 0 _ (by omega) rfl, hc 1 _ (by omega) rfl, hc 2 _ (by omega) rfl, hc 3 _ (by omega) rfl, hc 4 _ (by omega) rfl, hc 5 _ (by omega) rfl, hc 6 _ (by omega) rfl, hc 7 _ (by omega) rfl⟩
theorem ownr_kept {w w' : World} {B e s n : Nat} {v : Value} {xs : List Value} (h : w.ownsRow B e s v n xs) (k : Kept w w') : w'.ownsRow B e s v n xs := by
  refine ⟨h.1, ?_⟩
  rcases h.2 with h0 | ⟨g, cap, cur, h1, h2, h3, h4⟩
  · exact .inl h0
  · exact .inr ⟨g, cap, cur, h1, h2, (kept_block k (Array.getElem?_eq_some_iff.1 h3).1).trans h3, h4⟩
theorem rec_new {w : World} {Y : Nat} {r : R} (h : At w Y #[.string r.key, .int .u64 r.s.p, .int .u32 r.s.l, .int .u8 r.s.n, .int .u8 r.kind, .int .u32 r.flags, .int .u64 r.exp, .string r.body] 42) : ∀ j u, (cellsL r)[j]? = some u → w.cell? ((⟨Y, 0, none⟩ : Addr).add j) = some u := by
  intro j u hj
  rw [add_zero_plain, at_cell h j, ← hj]
  show (cellsL r).toArray[j]? = _
  simp
theorem rec_one (r : R) : ∀ u ∈ cellsL r, u.oneCell' = true := by
  intro u hu
  simp only [cellsL, List.mem_cons, List.not_mem_nil, or_false] at hu
  rcases hu with rfl | rfl | rfl | rfl | rfl | rfl | rfl | rfl <;> rfl
/- A row of records that is read. -/
def RdR (w : World) (v : Value) (L : List R) : Prop := ∃ a cap, v = .slice a L.length cap ∧ (0 < L.length → ∃ q, a = some ⟨q, 0, none⟩ ∧ q < w.heap.size ∧ ∀ i r, L[i]? = some r → C8 w q (i * 8) r)
theorem c8_block {w w' : World} {q o : Nat} {r : R} (h : C8 w q o r) (e : w'.heap[q]? = w.heap[q]?) : C8 w' q o r := by
  have hc : ∀ j, w'.cell? ⟨q, j, none⟩ = w.cell? ⟨q, j, none⟩ := fun j => by unfold World.cell?; rw [e]
  unfold C8 at *
  simp only [hc]
  exact h
theorem rdr_kept {w w' : World} {v : Value} {L : List R} (h : RdR w v L) (k : Kept w w') : RdR w' v L := by
  obtain ⟨a, cap, rfl, h⟩ := h
  refine ⟨a, cap, rfl, fun hp => ?_⟩
  obtain ⟨q, rfl, hq, hc⟩ := h hp
  exact ⟨q, rfl, Nat.lt_of_lt_of_le hq k.2, fun i r hr => c8_block (hc i r hr) (kept_block k hq)⟩
theorem cmpK_any (a b : R) (W : World) : Calls Tryz.prog 58 #[.agg #[.string a.key, .int .u64 a.s.p, .int .u32 a.s.l, .int .u8 a.s.n, .int .u8 a.kind, .int .u32 a.flags, .int .u64 a.exp, .string a.body], .agg #[.string b.key, .int .u64 b.s.p, .int .u32 b.s.l, .int .u8 b.s.n, .int .u8 b.kind, .int .u32 b.flags, .int .u64 b.exp, .string b.body]] W fun e w' => e = .returned (.int .i64 (cmpB a.key b.key)) ∧ ∃ q os, w' = Go.Sort.grow (W.drewN q) os := by
  have HEnd : Hid (∃ q os, (W.alloc (.cells #[.string a.key, .int .u64 a.s.p, .int .u32 a.s.l, .int .u8 a.s.n, .int .u8 a.kind, .int .u32 a.flags, .int .u64 a.exp, .string a.body] 42)).alloc (.cells #[.string b.key, .int .u64 b.s.p, .int .u32 b.s.l, .int .u8 b.s.n, .int .u8 b.kind, .int .u32 b.flags, .int .u64 b.exp, .string b.body] 42) = Go.Sort.grow (W.drewN q) os) := hid ⟨0, _, by
    rw [Go.Sort.alloc_eq_grow, Go.Sort.alloc_eq_grow, Go.Sort.grow_grow]
    rfl⟩
  go_enter Tryz.func58, Tryz.ntmps58
  go_wp2_with fail
  refine (cmpText a.key b.key _).mono ?_
  rintro e w1 ⟨rfl, rfl⟩
  go_wp2_with fail
  go_ret
  exact ⟨rfl, HEnd.out⟩
section
open Go.Shelf Go.RowKit Go.Lib Go.Sort
def cfR (a b : R) : Int := cmpB a.key b.key
theorem swo_cfR : SWO (ltOf cfR) where
  irrefl x := by
    unfold ltOf cfR
    have := (cmpB_zero x.key x.key).2 rfl
    rw [this]; rfl
  trans x y z h1 h2 := by
    unfold ltOf cfR at *
    simp only [decide_eq_true_eq] at *
    exact (good_bytes.tr x.key y.key z.key (by omega) (by omega)).2.2 (.inl h1)
  ntrans x y z h1 h2 := by
    unfold ltOf cfR at *
    simp only [decide_eq_false_iff_not] at *
    have e1 := good_bytes.neg x.key y.key
    have e2 := good_bytes.neg y.key z.key
    have e3 := good_bytes.neg x.key z.key
    have := (good_bytes.tr z.key y.key x.key (by omega) (by omega)).1
    omega
theorem enc_at8 (x : R) (c : Nat) (hc : c < 8) : (cellsL x)[c]? = some ((cellsL x)[c]!) := by
  match c, hc with
  | 0, _ => rfl
  | 1, _ => rfl
  | 2, _ => rfl
  | 3, _ => rfl
  | 4, _ => rfl
  | 5, _ => rfl
  | 6, _ => rfl
  | 7, _ => rfl
theorem holds_rec [Inhabited R] {w : World} {B q n cap : Nat} {l : List R} (h : w.ownsRow B 42 8 (.slice (some ⟨q, 0, none⟩) n cap) n (flat l)) : HoldsK cellsL 8 w q 0 l.toArray := by
  intro t ht
  rw [size_flatK] at ht
  rw [get_flatK _ _ _ _ ht]
  have hi : t / 8 < l.length := by simp at ht; omega
  have e : l.toArray[t / 8]! = l[t / 8] := by simp [hi]
  rw [e]
  constructor
  · have h1 := h.cells (g := q) rfl (t / 8 * 8 + t % 8) ((cellsL l[t / 8])[t % 8]!) (by rw [flat_get l (t / 8) (t % 8) hi (Nat.mod_lt _ (by omega))]; exact enc_at8 _ _ (Nat.mod_lt _ (by omega)))
    rw [add_zero_plain] at h1
    rw [show 0 + t = t / 8 * 8 + t % 8 by omega]
    exact h1
  · rcases h.2 with ⟨h1, _⟩ | ⟨g, c2, cur, h1, hb, hg, rest⟩
    · cases h1
    · injection h1 with h1 h2 h3
      injection h1 with h1
      injection h1 with h1
      subst h1
      exact at_frozen hg _
theorem sortedR_block [Inhabited R] (w : World) (q n : Nat) (d : Array R) (os : Array Obj) {k : Nat} (hk : k < w.heap.size) (hn : k ≠ q) : (sortWorldK cellsL 8 w q 0 n d os).heap[k]? = w.heap[k]? := by
  unfold sortWorldK putRowK putRow mapBlock
  rw [heap_grow_old _ _ (by simpa [ahead] using hk)]
  show (w.heap.modify q _)[k]? = _
  rw [Array.getElem?_modify, if_neg (Ne.symm hn)]
/- What the sort leaves. -/
def SortRC (T : List R) (v : Value) (w : World) (e : Ending) (w' : World) : Prop :=
  e = .returned (.tuple #[]) ∧ (w'.os = w.os ∧ w'.output = w.output ∧ w.heap.size ≤ w'.heap.size ∧ ∀ k, k < w.heap.size → v.ownBlock ≠ some k → w'.heap[k]? = w.heap[k]?) ∧ ∃ S, S.Perm T ∧ Up S ∧ RdR w' v S
theorem sortR_any (T : List R) (hT : T.length ≤ 1000) (hk : Keys T) (B : Nat) (v : Value) (w : World) (h : w.ownsRow B 42 8 v T.length (flat T)) : Calls Tryz.prog 57 #[v, .func (.func 58) #[] #[]] w (SortRC T v w) := by
  have inh : Inhabited R := ⟨zeroR⟩
  rcases h.2 with ⟨rfl, h0⟩ | ⟨q, cap, cur, rfl, hb, hg, hc, hm, hs, ht⟩
  · refine (show Calls Tryz.prog 57 _ _ _ from AnyF.slices_SortFunc_none { layR with } none 0 (.func (.func 58) #[] #[]) w).mono ?_
    rintro e w' ⟨rfl, rfl⟩
    have hT0 : T = [] := List.eq_nil_of_length_eq_zero h0
    subst hT0
    exact ⟨rfl, ⟨rfl, rfl, Nat.le_refl _, fun _ _ _ => rfl⟩, [], List.Perm.refl _, List.Pairwise.nil, none, 0, rfl, fun hp => absurd hp (by simp)⟩
  · have hq : q < w.heap.size := at_lt hg
    have eg : ∀ args w, (callFunc 58 args).run Tryz.prog w = .ok (.enter 58 args) w := enters_of Tryz.func58 (by kernel_rfl) rfl
    have hH := holds_rec h
    have hcon := AnyQ.slices_SortFunc layR 8 Tryz.isAgg42 Tryz.sizeOf42 cellsL (fun _ => rfl) (fun x v hv => rec_one x v hv) cfR swo_cfR 58 #[] q 0 cap T.toArray w eg (fun _ _ _ _ x y => cmpK_any x y _) hH hq (by simp; omega)
    refine (show Calls Tryz.prog 57 _ _ _ from hcon).mono ?_
    rintro e w' ⟨rfl, d', n, os, hp, hso, rfl⟩
    obtain ⟨hsz, _, hpe⟩ := hp
    have hsz2 : d'.size = T.length := by rw [hsz]; simp
    have hP : d'.toList.Perm T := by
      have e1 : d'.extract 0 T.toArray.size = d' := by
        rw [← hsz]
        simp
      have e2 : T.toArray.extract 0 T.toArray.size = T.toArray := by simp
      rw [e1, e2] at hpe
      simpa using hpe
    have hU : Up d'.toList := by
      unfold Up
      rw [List.pairwise_iff_getElem]
      intro i j hi hj hij
      have hi' : i < d'.size := by simpa using hi
      have hj' : j < d'.size := by simpa using hj
      have h1 := hso i j (Nat.zero_le _) hij (by rw [← hsz]; exact hj')
      unfold ltOf cfR at h1
      have e1 : d'[i]! = d'[i] := by simp [hi']
      have e2 : d'[j]! = d'[j] := by simp [hj']
      rw [e1, e2] at h1
      simp only [decide_eq_false_iff_not] at h1
      have hne : d'[i].key ≠ d'[j].key := by
        have hk2 : Keys d'.toList := keys_perm hP.symm hk
        have := (List.pairwise_iff_getElem.1 hk2) i j hi hj hij
        simpa using this
      have h2 : ¬ ltK d'[j] d'[i] := h1
      have := ltK_tot h2 (Ne.symm hne)
      simpa using this
    refine ⟨rfl, ⟨rfl, rfl, ?_, fun k hk hn => sortedR_block w q n _ os hk (fun e => hn (by rw [e]; rfl))⟩, d'.toList, hP, hU, some ⟨q, 0, none⟩, cap, by simp [hsz2], fun _ => ⟨q, rfl, ?_, fun i x hx => ?_⟩⟩
    · unfold sortWorldK putRowK putRow mapBlock
      rw [size_grow]
      show w.heap.size ≤ (w.heap.modify q _).size + _
      simp
    · unfold sortWorldK putRowK putRow mapBlock
      rw [size_grow]
      show q < (w.heap.modify q _).size + _
      simp
      omega
    · have hi : i < d'.toList.length := by
        by_cases g : i < d'.toList.length
        · exact g
        · rw [List.getElem?_eq_none (by omega)] at hx; cases hx
      have hi' : i < d'.size := by simpa using hi
      have h1 : HoldsK cellsL 8 (sortWorldK cellsL 8 w q 0 n d' os) q 0 d' :=
        holdsK_grow cellsL 8 _ _ _ _ _ (by simpa [putRowK, ahead] using hq) (holdsK_putRowK cellsL 8 _ _ _ T.toArray _ (holdsK_ahead cellsL 8 _ _ _ _ _ hH) (by simp [hsz2]))
      have h2 := fun c (hc : c < 8) => h1.cell (i := i) (c := c) hi' hc
      have e : d'[i]! = x := by
        rw [List.getElem?_eq_getElem hi] at hx
        injection hx with hx
        simp [hi', ← hx]
      have h3 : ∀ c (hc : c < 8), (sortWorldK cellsL 8 w q 0 n d' os).cell? ⟨q, 0 + i * 8 + c, none⟩ = some ((cellsL x)[c]!) := fun c hc => by
        have := (h2 c hc).1
        rw [e] at this
        simpa [Nat.add_assoc] using this
      simp only [Nat.zero_add] at h3
      exact ⟨h3 0 (by omega), h3 1 (by omega), h3 2 (by omega), h3 3 (by omega), h3 4 (by omega), h3 5 (by omega), h3 6 (by omega), h3 7 (by omega)⟩
end
end Go.Proofs.YthgbdaladngpdaaGreat

/- The contract of Range: a range's records by rising keys, in a row of one's own. The store has at most 500 records. -/
namespace Go.Proofs.YthgbdaladngpdaaGreat
open Go.ChangeShapes Go.WideShapes Go.ChangeAt Go.RowKit
open Go.Proofs.YthgbdaladngpdaaGreat.Whl (Tn tn_kept tn_refl tn_trans tn_set tn_alloc at_tn kept_tn It)
set_option linter.unusedVariables false
set_option linter.unusedSimpArgs false
set_option maxRecDepth 100000

theorem perm_mem {α : Type} : ∀ {a b : List α}, a.Nodup → b.Nodup → (∀ x, x ∈ a ↔ x ∈ b) → a.Perm b
  | [], b, _, _, h => by
    have : b = [] := List.eq_nil_iff_forall_not_mem.2 (fun x hx => by simpa using (h x).2 hx)
    rw [this]
  | x :: a, b, ha, hb, h => by
    obtain ⟨a1, a2⟩ := List.nodup_cons.1 ha
    obtain ⟨p, q, rfl⟩ := List.append_of_mem ((h x).1 List.mem_cons_self)
    have hp : (p ++ x :: q).Perm (x :: (p ++ q)) := List.perm_middle
    obtain ⟨b1, b2⟩ := List.nodup_cons.1 (hp.nodup_iff.1 hb)
    refine List.Perm.trans ((perm_mem a2 b2 (fun y => ?_)).cons x) hp.symm
    constructor
    · intro hy
      have := hp.mem_iff.1 ((h y).1 (List.mem_cons_of_mem _ hy))
      rcases List.mem_cons.1 this with e | e
      · rw [e] at hy; exact absurd hy a1
      · exact e
    · intro hy
      have := (h y).2 (hp.mem_iff.2 (List.mem_cons_of_mem _ hy))
      rcases List.mem_cons.1 this with e | e
      · rw [e] at hy; exact absurd hy b1
      · exact e
def picks (pl : Nat → R) (l : List Nat) (k : Int) (j : Nat) : List R := ((List.range j).filter (fun i => decide (i ∈ l) && inR k (pl i))).map pl
theorem picks_yes {pl : Nat → R} {l : List Nat} {k : Int} {j : Nat} (h1 : j ∈ l) (h2 : inR k (pl j) = true) : picks pl l k (j + 1) = picks pl l k j ++ [pl j] := by
  unfold picks
  rw [List.range_succ, List.filter_append, List.map_append]
  congr 1
  rw [List.filter_cons_of_pos (by simp [h1, h2])]
  rfl
theorem picks_no {pl : Nat → R} {l : List Nat} {k : Int} {j : Nat} (h : ¬ (j ∈ l ∧ inR k (pl j) = true)) : picks pl l k (j + 1) = picks pl l k j := by
  unfold picks
  rw [List.range_succ, List.filter_append, List.map_append]
  rw [List.filter_cons_of_neg (l := []) (by simp; exact fun a => by cases e : inR k (pl j) with | false => rfl | true => exact absurd ⟨a, e⟩ h)]
  simp
theorem picks_perm {c : Cf} {pl : Nat → R} {l : List Nat} {f : ByteArray → Option Int} {M : List It} {pend : Nat → Prop} (h : Coh c pl l f M pend) (k : Int) : (picks pl l k c.n).Perm ((l.map pl).filter (inR k)) := by
  unfold picks
  rw [List.filter_map]
  refine List.Perm.map pl ?_
  refine perm_mem (List.nodup_range.filter _) (h.once.filter _) (fun x => ?_)
  rw [List.mem_filter, List.mem_filter, List.mem_range]
  constructor
  · rintro ⟨h1, h2⟩
    simp at h2
    exact ⟨h2.1, h2.2⟩
  · rintro ⟨h1, h2⟩
    refine ⟨h.low x h1, ?_⟩
    simp only [Bool.and_eq_true, decide_eq_true_iff]
    exact ⟨h1, h2⟩
def RangeC (L : List R) (w : World) (e : Ending) (w' : World) : Prop := ∃ v, e = .returned v ∧ Kept w w' ∧ RdR w' v L
set_option maxHeartbeats 3200000 in
theorem range_st {F : Nat → Prop} {X : Nat} {c : Cf} {s : MS} (hc : c.may) (k : Int) (hl : s.L.length ≤ 500) (w : World) (h : St w F X c s) :
    Calls Tryz.prog 30 #[.pointer (some ⟨X, 0, none⟩), .int .i64 k] w (RangeC (rangeL k s.L) w) := by
  obtain ⟨pl, l, ⟨f, M, a, hm, hco⟩, hL⟩ := h
  have hz := zero27
  obtain ⟨i0, hi, hz0, hz1, hz2⟩ := info_parts (P := Tryz.prog) (e := 42) info42
  have HI := hid (And.intro hi (And.intro hz0 (And.intro hz1 hz2)))
  have hn4 : c.n ≤ 1024 := hc.2.1
  have hkeys : Keys s.L := by rw [hL]; exact coh_rows hco
  have hPl : ∀ j, j ≤ c.n → (picks pl l k j).length ≤ 500 := fun j hj => by
    have h1 : ((List.range j).filter (fun i => decide (i ∈ l) && inR k (pl i))).length ≤ l.length := nodup_subN (List.nodup_range.filter _) (fun x hx => by
      have := (List.mem_filter.1 hx).2
      simp at this
      exact this.1)
    unfold picks
    rw [List.length_map]
    have : s.L.length = l.length := by rw [hL]; simp
    omega
  have HPl := hid hPl
  have HEnd : Hid (∀ S, S.Perm (picks pl l k c.n) → Up S → S = rangeL k s.L) := hid (fun S hS hU => range_is hkeys (by rw [hL]; exact hS.trans (picks_perm hco k)) hU)
  have HKs : Hid (Keys (picks pl l k c.n)) := hid (keys_perm (picks_perm hco k).symm ((coh_rows hco).filter _))
  have HSm := hid hm
  have HTk : Hid (∀ j, j < c.n → ((pl j).kind ≠ 0 ↔ j ∈ l)) := hid (fun j hj => (hco.taken j hj).symm)
  have HMy : Hid (∀ j ∈ l, mayR (pl j) = true) := hid hco.may
  have HO0 := hid (World.ownsRow_nil w w.heap.size 42 8)
  have HK0 := hid (kept_refl w)
  obtain ⟨⟨c0, _⟩, _⟩ := sm_cells hm
  clear hm hco hkeys hPl hi hz0 hz1 hz2
  go_enter Tryz.func30, Tryz.ntmps30
  go_wp2_with fail
  clear c0
  go_loopw [5, 6, 14] (fun v _ i wr => ∃ j : Nat, j ≤ c.n ∧ i = .int .i64 (j : Int) ∧ Hid (wr.ownsRow w.heap.size 42 8 v (picks pl l k j).length (flat (picks pl l k j))) ∧ Hid (Kept w wr)) (fun _ _ i _ => c.n - (intOf i).toNat)
  case atStart => exact ⟨0, Nat.zero_le _, rfl, HO0, HK0⟩
  case round =>
    clear HO0 HK0
    obtain ⟨j, hj, rfl, HO, HK⟩ := hrel
    by_cases hlt : j < c.n
    · have hT := taken_any j hlt hn4 wr (sm_kept HSm.out HK.out)
      have hlen := HPl.out j (by omega)
      by_cases hx : j ∈ l
      · have hd : decide ((pl j).kind ≠ 0) = true := decide_eq_true ((HTk.out j hlt).2 hx)
        rw [hd] at hT
        have hmay := HMy.out j hx
        obtain ⟨⟨c0, _⟩, _⟩ := sm_cells (sm_kept HSm.out HK.out)
        obtain ⟨⟨r0, r1, r2, r3, r4, r5, r6, r7⟩, _⟩ := rowR_cells (sm_kept HSm.out HK.out).row hlt
        have hks : (pl j).key.size ≤ maxLen := by have := (may_len hmay).2; unfold maxLen; omega
        have hkf : (pl j).key.size ≤ 140737488355328 := by have := (may_len hmay).2; omega
        have hbf : (pl j).body.size ≤ 140737488355328 := by have := (may_len hmay).1; unfold lenR at this; omega
        have hRg := range_any (pl j).key hks
        by_cases he : inR k (pl j) = true
        · have heb : ((rg (pl j).key : Int) == k) = true := by unfold inR at he; simpa using he
          have HN := hid (picks_yes hx he)
          obtain ⟨r, hr⟩ : ∃ r, pl j = r := ⟨_, rfl⟩
          rw [hr] at r0 r1 r2 r3 r4 r5 r6 r7 hkf hbf hRg heb HN
          generalize rg r.key = kk at hRg heb
          clear hd hx he hmay hks hr
          go_wp2_with fail
          refine hT.mono ?_
          rintro e w1 ⟨rfl, rfl⟩
          go_wp2_with fail
          refine (hRg _).mono ?_
          rintro e w2 ⟨rfl, rfl⟩
          go_wp2_with fail
          refine (fresh_any r hkf hbf _).mono ?_
          rintro e w3 ⟨rfl, k3⟩
          have HO3 := hid (ownr_kept HO.out (kept_alloc k3 (.cells #[.string r.key, .int .u64 r.s.p, .int .u32 r.s.l, .int .u8 r.s.n, .int .u8 r.kind, .int .u32 r.flags, .int .u64 r.exp, .string r.body] 42)))
          have HK3 := hid (kept_trans HK.out (kept_alloc k3 (.cells #[.string r.key, .int .u64 r.s.p, .int .u32 r.s.l, .int .u8 r.s.n, .int .u8 r.kind, .int .u32 r.flags, .int .u64 r.exp, .string r.body] 42)))
          have HA3 := hid (at_new w3 #[.string r.key, .int .u64 r.s.p, .int .u32 r.s.l, .int .u8 r.s.n, .int .u8 r.kind, .int .u32 r.flags, .int .u64 r.exp, .string r.body] 42)
          have HB : Hid (w.heap.size ≤ (w3.alloc (.cells #[.string r.key, .int .u64 r.s.p, .int .u32 r.s.l, .int .u8 r.s.n, .int .u8 r.kind, .int .u32 r.flags, .int .u64 r.exp, .string r.body] 42)).heap.size) := hid HK3.out.2
          clear k3 HO HK c0 r0 r1 r2 r3 r4 r5 r6 r7 hT hRg
          go_wp2_with (at_builtin; refine wpList_append_own _ rfl _ _ 29 rfl w.heap.size 42 i0 _ 8 64 Tryz.underlying29 HI.out.1 HI.out.2.1 HI.out.2.2.1 HI.out.2.2.2 rfl (by decide) _ _ _ rfl HO3.out ⟨w3.heap.size, 0, none⟩ 1 1 (cellsL r) rfl rfl (rec_new HA3.out) (rec_one _) (by unfold maxLen; omega) (by omega) HB.out ?_; intro v4 w4 hown4 hgrow4 hnil4)
          have HK4 := hid (Whl.kept_grown HK3.out hgrow4 (fun q hq => (HO3.out.lt q hq).1))
          have HO4 : Hid (w4.ownsRow w.heap.size 42 8 v4 (picks pl l k (j + 1)).length (flat (picks pl l k (j + 1)))) := hid (by
            rw [HN.out, flat_snoc, List.length_append]
            exact hown4)
          clear hown4 hgrow4 hnil4 HO3 HK3 HA3 HB HN
          go_roundw
          case rel => exact ⟨j + 1, by omega, by go_num, HO4, HK4⟩
          case measure => simp [intOf]; omega
        · have heb : ((rg (pl j).key : Int) == k) = false := by unfold inR at he; simpa using he
          have HN := hid (picks_no (pl := pl) (l := l) (k := k) (j := j) (fun g => he g.2))
          obtain ⟨r, hr⟩ : ∃ r, pl j = r := ⟨_, rfl⟩
          rw [hr] at r0 r1 r2 r3 r4 r5 r6 r7 hRg heb
          generalize rg r.key = kk at hRg heb
          clear hd hx he hmay hks hr hkf hbf
          go_wp2_with fail
          refine hT.mono ?_
          rintro e w1 ⟨rfl, rfl⟩
          go_wp2_with fail
          refine (hRg _).mono ?_
          rintro e w2 ⟨rfl, rfl⟩
          rw [← HN.out] at HO
          clear c0 r0 r1 r2 r3 r4 r5 r6 r7 hT hRg
          go_wp2_with fail
          go_roundw
          case rel => exact ⟨j + 1, by omega, by go_num, HO, HK⟩
          case measure => simp [intOf]; omega
      · have hd : decide ((pl j).kind ≠ 0) = false := decide_eq_false (fun g => hx ((HTk.out j hlt).1 g))
        rw [hd] at hT
        have HN := hid (picks_no (pl := pl) (l := l) (k := k) (j := j) (fun g => hx g.1))
        rw [← HN.out] at HO
        clear hd hx
        go_wp2_with fail
        refine hT.mono ?_
        rintro e w1 ⟨rfl, rfl⟩
        go_wp2_with fail
        go_roundw
        case rel => exact ⟨j + 1, by omega, by go_num, HO, HK⟩
        case measure => simp [intOf]; omega
    · have hje : j = c.n := by omega
      subst hje
      have hsort := sortR_any (picks pl l k c.n) (by have := HPl.out c.n (Nat.le_refl _); omega) HKs.out w.heap.size u5 wr HO.out
      have HZ : Hid (∀ u, (u.os = wr.os ∧ u.output = wr.output ∧ wr.heap.size ≤ u.heap.size ∧ ∀ q, q < wr.heap.size → u5.ownBlock ≠ some q → u.heap[q]? = wr.heap[q]?) → (∃ S, S.Perm (picks pl l k c.n) ∧ Up S ∧ RdR u u5 S) → RangeC (rangeL k s.L) w (.returned u5) u) := hid (fun u ⟨o1, o2, o3, o4⟩ hS => by
        obtain ⟨S, h1, h2, h3⟩ := hS
        refine ⟨u5, rfl, ?_, by rw [← HEnd.out S h1 h2]; exact h3⟩
        refine kept_of (o1.trans (kept_os HK.out)) (o2.trans (kept_output HK.out)) (Nat.le_trans HK.out.2 o3) (fun q hq => (o4 q (Nat.lt_of_lt_of_le hq HK.out.2) (fun e => by have := (HO.out.lt q e).1; omega)).trans (kept_block HK.out hq)))
      clear HO HK
      go_wp2_with fail
      refine hsort.mono ?_
      rintro e w2 ⟨rfl, h1, h2⟩
      have HQ := hid (HZ.out _ h1 h2)
      clear h1 h2 HZ
      go_wp2_with fail
      go_ret
      exact HQ.out
end Go.Proofs.YthgbdaladngpdaaGreat

/- What the laws share: the row of calls as it is cut, two rows of records that are the same, the reference's range. -/
namespace Go.Proofs.YthgbdaladngpdaaGreat
open Go.ChangeShapes Go.WideShapes Go.ChangeAt Go.RowKit
open Go.Proofs.YthgbdaladngpdaaGreat.Whl (Tn tn_kept tn_refl tn_trans tn_set tn_alloc at_tn kept_tn It)
set_option linter.unusedVariables false
set_option linter.unusedSimpArgs false
set_option maxRecDepth 100000

theorem quo58 (t : Int) (h : (Lit.int .u64 t).wf = true) : wrap64 (IntKind.u64.wrap (t.tdiv 288230376151711744)) = t / 288230376151711744 := by
  have := bounds_u64 h
  rw [Int.tdiv_eq_ediv_of_nonneg this.1, IntKind.wrap_u64]
  unfold wrap64; omega
theorem refrange_any (s : ByteArray) (hs : s.size ≤ maxLen) (w : World) :
    Calls Tryz.prog 13 #[.string s] w fun e w' => e = .returned (.int .i64 (rg s : Int)) ∧ w' = w := by
  have ht := wf_textI s.data.toList s.size
  rw [← rg_int]
  go_enter Tryz.func13, Tryz.ntmps13
  go_wp2_with fail
  refine (reftext_any s hs _).mono ?_
  rintro e w' ⟨rfl, rfl⟩
  go_wp2_with fail
  go_ret
  exact ⟨ret_int (quo58 _ ht), rfl⟩
theorem lieso_kept {w w' : World} {b o : Nat} {x : Opx} (h : LiesO w b o x) (hb : b < w.heap.size) (k : Kept w w') : LiesO w' b o x := by
  unfold LiesO at *
  simp only [kept_cell k hb]
  exact h
theorem rowo_kept {w w' : World} {oa : Option Addr} {len cap b o : Nat} {S : Nat → Opx} (h : RowO w oa len cap b o S) (k : Kept w w') : RowO w' oa len cap b o S := by
  obtain ⟨h1, h2, h3, h4, h5⟩ := h
  refine ⟨h1, h2, h3, fun hl => ⟨(h4 hl).1, Nat.lt_of_lt_of_le (h4 hl).2 k.2⟩, fun i hi => ?_⟩
  have hb := (h4 (by omega)).2
  exact ⟨(h5 i hi).1, lieso_kept (h5 i hi).2 hb k⟩
theorem rowo_less {w : World} {oa : Option Addr} {len cap b o n : Nat} {S : Nat → Opx} (h : RowO w oa len cap b o S) (hn : n ≤ len) : RowO w oa n cap b o S :=
  ⟨Nat.le_trans hn h.1, h.2.1, h.2.2.1, fun hl => h.2.2.2.1 (by omega), fun i hi => h.2.2.2.2 i (by omega)⟩
def CutC (w : World) (oa : Option Addr) (len cap : Nat) (S : Nat → Opx) (e : Ending) (w' : World) : Prop := ∃ n, e = .returned (.slice oa n cap) ∧ n ≤ len ∧ n ≤ 81 ∧ (∀ i, i < n → (S i).r.key.size ≤ 1000 ∧ (S i).r.body.size ≤ 3000) ∧ Kept w w'
theorem zero44 (w : World) : (zeroValue 44).run Tryz.prog w = .ok (.agg #[.int .i64 0, .string ⟨#[]⟩, .int .u64 0, .int .u32 0, .int .u8 0, .int .u8 0, .int .u32 0, .int .u64 0, .string ⟨#[]⟩, .int .u8 0]) w := by kernel_rfl
set_option maxHeartbeats 1600000 in
theorem cut_any (oa : Option Addr) (len cap b o : Nat) (S : Nat → Opx) (w : World) (h : RowO w oa len cap b o S) : Calls Tryz.prog 12 #[.slice oa len cap] w (CutC w oa len cap S) := by
  have hz := zero44
  have h1 := h.1
  have h2 := h.2.1
  unfold maxLen at h2
  have HR := hid h
  clear h
  go_enter Tryz.func12, Tryz.ntmps12
  go_wp2_with fail
  go_loopw [7] (fun i wr => ∃ j : Nat, j ≤ len ∧ i = .int .i64 (j : Int) ∧ j ≤ 81 ∧ Hid (∀ i, i < j → (S i).r.key.size ≤ 1000 ∧ (S i).r.body.size ≤ 3000) ∧ Hid (Kept w wr)) (fun i _ => len - (intOf i).toNat)
  case atStart => exact ⟨0, Nat.zero_le _, rfl, by omega, hid (fun i hi => absurd hi (by omega)), hid (kept_refl w)⟩
  case round =>
    obtain ⟨j, hj, rfl, hj2, HS, HK⟩ := hrel
    by_cases hlt : j < len
    · obtain ⟨rfl, hb⟩ := HR.out.2.2.2.1 (by omega)
      obtain ⟨ks, c0, c1, c2, c3, c4, c5, c6, c7, c8, c9⟩ := (rowo_kept HR.out HK.out).2.2.2.2 j hlt
      have ks1 := ks.2.1.1
      have ks2 := ks.2.1.2.2.2.2.2
      unfold maxLen at ks1 ks2
      clear ks
      generalize hx : S j = x at *
      have HX := hid hx
      clear hx
      by_cases e0 : 80 < j
      · have e1 : (80 : Int) < (j : Int) := by omega
        clear e0
        go_wp2_with fail
        go_ret
        exact ⟨j, rfl, hj, hj2, HS.out, kept_alloc HK.out _⟩
      · have e1 : decide ((80 : Int) < (j : Int)) = false := by simp; omega
        by_cases e2 : 1000 < x.r.key.size
        · have e3 : (1000 : Int) < (x.r.key.size : Int) := by omega
          clear e2
          go_wp2_with fail
          go_ret
          exact ⟨j, rfl, hj, hj2, HS.out, kept_alloc HK.out _⟩
        · have e3 : decide ((1000 : Int) < (x.r.key.size : Int)) = false := by simp; omega
          by_cases e4 : 3000 < x.r.body.size
          · have e5 : (3000 : Int) < (x.r.body.size : Int) := by omega
            clear e2 e4
            go_wp2_with fail
            go_ret
            exact ⟨j, rfl, hj, hj2, HS.out, kept_alloc HK.out _⟩
          · have e5 : ¬ (3000 : Int) < (x.r.body.size : Int) := by omega
            have HN : Hid (∀ i, i < j + 1 → (S i).r.key.size ≤ 1000 ∧ (S i).r.body.size ≤ 3000) := hid (fun i hi => by
              rcases (show i < j ∨ i = j by omega) with h | h
              · exact HS.out i h
              · rw [h, HX.out]; omega)
            clear e2 e4
            go_wp2_with fail
            go_roundw
            case rel => exact ⟨j + 1, by omega, by go_num, by omega, HN, kept_alloc HK.out _⟩
            case measure => simp [intOf]; omega
    · have hje : j = len := by omega
      subst hje
      go_wp2_with fail
      go_ret
      exact ⟨j, rfl, Nat.le_refl _, hj2, HS.out, HK.out⟩
/- Two rows that are the same. -/
theorem idxR (P n cap i : Nat) (h : i < n) (hn : n ≤ 4096) (w : World) : (Instr.indexAt 29 (.slice (some ⟨P, 0, none⟩) n cap) (.int .i64 (i : Int))).run Tryz.prog w = .ok (.pointer (some ⟨P, i * 8, none⟩)) w := by
  have h1 : (i : Int) < (n : Int) := by omega
  go_simp
set_option maxHeartbeats 1600000 in
theorem same_any (L : List R) (hL : L.length ≤ 1000) (v1 v2 : Value) (w : World) (h1 : RdR w v1 L) (h2 : RdR w v2 L) : Calls Tryz.prog 29 #[v1, v2] w fun e w' => e = .returned (.bool true) ∧ Kept w w' := by
  obtain ⟨a1, cp1, rfl, h1⟩ := h1
  obtain ⟨a2, cp2, rfl, h2⟩ := h2
  have HL1 : Hid (∀ j, j < L.length → ∃ q, a1 = some ⟨q, 0, none⟩ ∧ ∃ r, L[j]? = some r ∧ C8 w q (j * 8) r) := hid (fun j hj => by
    obtain ⟨q, e, _, hc⟩ := h1 (by omega)
    exact ⟨q, e, L[j], List.getElem?_eq_getElem hj, hc j _ (List.getElem?_eq_getElem hj)⟩)
  have HL2 : Hid (∀ j r, L[j]? = some r → ∃ q, a2 = some ⟨q, 0, none⟩ ∧ C8 w q (j * 8) r) := hid (fun j r hr => by
    have hj : j < L.length := by
      by_cases g : j < L.length
      · exact g
      · rw [List.getElem?_eq_none (by omega)] at hr; cases hr
    obtain ⟨q, e, _, hc⟩ := h2 (by omega)
    exact ⟨q, e, hc j r hr⟩)
  clear h1 h2
  generalize hn : L.length = n at *
  clear hn
  go_enter Tryz.func29, Tryz.ntmps29
  go_wp2_with fail
  go_loopw [5, 13] (fun _ i wr => ∃ j : Nat, j ≤ n ∧ i = .int .i64 (j : Int) ∧ ∃ d, wr = w.drewN d) (fun _ i _ => n - (intOf i).toNat)
  case atStart => exact ⟨0, Nat.zero_le _, rfl, 0, rfl⟩
  case round =>
    obtain ⟨j, hj, rfl, d, rfl⟩ := hrel
    by_cases hlt : j < n
    · obtain ⟨q1, rfl, r, hr, r0, r1, r2, r3, r4, r5, r6, r7⟩ := HL1.out j hlt
      obtain ⟨q2, rfl, s0, s1, s2, s3, s4, s5, s6, s7⟩ := HL2.out j r hr
      have hq1 := idxR q1 n cp1 j hlt (by omega)
      have hq2 := idxR q2 n cp2 j hlt (by omega)
      have heq := eq_self r
      clear hr
      go_wp2_with fail
      go_quiet (fail)
      go_wp2_with fail
      go_roundw
      case rel => exact ⟨j + 1, by omega, by go_num, _, rfl⟩
      case measure => simp [intOf]; omega
    · go_wp2_with fail
      go_ret
      exact ⟨rfl, kept_drewN (kept_refl w) d⟩
end Go.Proofs.YthgbdaladngpdaaGreat

/- The reference's store as a value of 197 cells: a row of records, 64 floors, the bounds, a count. -/
namespace Go.Proofs.YthgbdaladngpdaaGreat
open Go.ChangeShapes Go.WideShapes Go.ChangeAt Go.RowKit
open Go.Proofs.YthgbdaladngpdaaGreat.Whl (Tn tn_kept tn_refl tn_trans tn_set tn_alloc at_tn kept_tn It)
set_option linter.unusedVariables false
set_option linter.unusedSimpArgs false
set_option maxRecDepth 100000

structure Sv (cs : Array Value) (v : Value) (fl : Nat → Stp) (c : Cf) (ev : Nat) : Prop where
  size : cs.size = 197
  row : cs[0]? = some v
  floor : ∀ k, k < 64 → cs[1 + k * 3]? = some (.int .u64 (fl k).p) ∧ cs[1 + k * 3 + 1]? = some (.int .u32 (fl k).l) ∧ cs[1 + k * 3 + 2]? = some (.int .u8 (fl k).n)
  n : cs[193]? = some (.int .i64 (c.n : Int))
  B : cs[194]? = some (.int .i64 (c.B : Int))
  K : cs[195]? = some (.int .u64 (c.K : Int))
  ev : cs[196]? = some (.int .i64 (ev : Int))
  one : cs.all (·.oneCell') = true
theorem all_set {cs : Array Value} {v : Value} (h : cs.all (·.oneCell') = true) (hv : v.oneCell' = true) (i : Nat) : (cs.setIfInBounds i v).all (·.oneCell') = true := by
  rw [Array.all_eq_true_iff_forall_mem] at *
  intro x hx
  rcases Array.mem_or_eq_of_mem_setIfInBounds hx with h1 | h1
  · exact h x h1
  · rw [h1]; exact hv
theorem sv_row {cs : Array Value} {v : Value} {fl : Nat → Stp} {c : Cf} {ev : Nat} (h : Sv cs v fl c ev) (v2 : Value) (h2 : v2.oneCell' = true) : Sv (cs.setIfInBounds 0 v2) v2 fl c ev := by
  refine ⟨by simp [h.size], set_got _ _ (by rw [h.size]; omega), fun k hk => ?_, ?_, ?_, ?_, ?_, all_set h.one h2 _⟩
  · rw [set_get _ _ (by omega), set_get _ _ (by omega), set_get _ _ (by omega)]
    exact h.floor k hk
  · rw [set_get _ _ (by omega)]; exact h.n
  · rw [set_get _ _ (by omega)]; exact h.B
  · rw [set_get _ _ (by omega)]; exact h.K
  · rw [set_get _ _ (by omega)]; exact h.ev
theorem sv_ev {cs : Array Value} {v : Value} {fl : Nat → Stp} {c : Cf} {ev : Nat} (h : Sv cs v fl c ev) (e2 : Nat) : Sv (cs.setIfInBounds 196 (.int .i64 (e2 : Int))) v fl c e2 := by
  refine ⟨by simp [h.size], ?_, fun k hk => ?_, ?_, ?_, ?_, set_got _ _ (by rw [h.size]; omega), all_set h.one rfl _⟩
  · rw [set_get _ _ (by omega)]; exact h.row
  · rw [set_get _ _ (by omega), set_get _ _ (by omega), set_get _ _ (by omega)]
    exact h.floor k hk
  · rw [set_get _ _ (by omega)]; exact h.n
  · rw [set_get _ _ (by omega)]; exact h.B
  · rw [set_get _ _ (by omega)]; exact h.K
theorem sv_floor {cs : Array Value} {v : Value} {fl fl2 : Nat → Stp} {c : Cf} {ev : Nat} (h : Sv cs v fl c ev) {k : Nat} (hk : k < 64) (x : Stp) (e : ∀ j, fl2 j = if j = k then x else fl j) :
    Sv (((cs.setIfInBounds (1 + k * 3) (.int .u64 x.p)).setIfInBounds (1 + k * 3 + 1) (.int .u32 x.l)).setIfInBounds (1 + k * 3 + 2) (.int .u8 x.n)) v fl2 c ev := by
  have hz := h.size
  refine ⟨by simp [h.size], ?_, fun j hj => ?_, ?_, ?_, ?_, ?_, all_set (all_set (all_set h.one rfl _) rfl _) rfl _⟩
  · rw [set_get _ _ (by omega), set_get _ _ (by omega), set_get _ _ (by omega)]; exact h.row
  · rw [e j]
    by_cases g : j = k
    · rw [if_pos g, g]
      refine ⟨?_, ?_, ?_⟩
      · rw [set_get _ _ (by omega), set_get _ _ (by omega), set_got _ _ (by omega)]
      · rw [set_get _ _ (by omega), set_got _ _ (by simp; omega)]
      · rw [set_got _ _ (by simp; omega)]
    · rw [if_neg g]
      obtain ⟨a, b, d⟩ := h.floor j hj
      refine ⟨?_, ?_, ?_⟩ <;> (rw [set_get _ _ (by omega), set_get _ _ (by omega), set_get _ _ (by omega)]; assumption)
  · rw [set_get _ _ (by omega), set_get _ _ (by omega), set_get _ _ (by omega)]; exact h.n
  · rw [set_get _ _ (by omega), set_get _ _ (by omega), set_get _ _ (by omega)]; exact h.B
  · rw [set_get _ _ (by omega), set_get _ _ (by omega), set_get _ _ (by omega)]; exact h.K
  · rw [set_get _ _ (by omega), set_get _ _ (by omega), set_get _ _ (by omega)]; exact h.ev
theorem info36 : (Tryz.prog.info? 36).map (·.size) = some 197 := by kernel_rfl
theorem load36 {w : World} {Z : Nat} {cs : Array Value} {v : Value} {fl : Nat → Stp} {c : Cf} {ev : Nat} (h : At w Z cs 36) (hs : Sv cs v fl c ev) : (loadVar 36 ⟨Z, 0, none⟩).run Tryz.prog w = .ok (.agg cs) w :=
  run_loadVar_row _ _ 36 36 cs (0, 0) _ h Tryz.underlying36 rfl (by rw [hs.size]; exact info36)
theorem store36 {w : World} {Z : Nat} {cs ds : Array Value} {v : Value} {fl : Nat → Stp} {c : Cf} {ev : Nat} (h : At w Z ds 36) (hd : ds.size = 197) (hs : Sv cs v fl c ev) : (storeVar 36 ⟨Z, 0, none⟩ (.agg cs)).run Tryz.prog w = .ok () (w.setRow Z cs) :=
  run_storeVar_row _ _ 36 36 ds cs h (by rw [hs.size]; exact info36) (by rw [hs.size, hd]) hs.one
/- A store of the reference: what it holds. -/
/- A row that is read and has room for itself. -/
def RdL (w : World) (v : Value) (L : List R) : Prop := RdR w v L ∧ ∃ a cap, v = .slice a L.length cap ∧ L.length ≤ cap ∧ cap ≤ maxLen
theorem rdl_kept {w w' : World} {v : Value} {L : List R} (h : RdL w v L) (k : Kept w w') : RdL w' v L := ⟨rdr_kept h.1 k, h.2⟩
def RS (w : World) (cs : Array Value) (c : Cf) (s : MS) : Prop := ∃ v, Sv cs v s.fl c s.ev ∧ RdL w v s.L
theorem rs_kept {w w' : World} {cs : Array Value} {c : Cf} {s : MS} (h : RS w cs c s) (k : Kept w w') : RS w' cs c s := by
  obtain ⟨v, h1, h2⟩ := h
  exact ⟨v, h1, rdl_kept h2 k⟩
theorem at_setRow {w : World} {Z : Nat} {cs ds : Array Value} {T : Nat} (h : At w Z ds T) : At (w.setRow Z cs) Z cs T := by
  unfold At World.setRow at *
  rw [Array.getElem?_modify, h]
  simp
theorem setRow_other {w : World} {Z k : Nat} {cs : Array Value} (h : k ≠ Z) : (w.setRow Z cs).heap[k]? = w.heap[k]? := by
  unfold World.setRow
  rw [Array.getElem?_modify, if_neg (Ne.symm h)]
theorem setRow_size (w : World) (Z : Nat) (cs : Array Value) : (w.setRow Z cs).heap.size = w.heap.size := by
  unfold World.setRow
  simp
theorem tn_setRow {F : Nat → Prop} {u w : World} (h : Tn F u w) {Z : Nat} (hZ : F Z ∨ u.heap.size ≤ Z) (cs : Array Value) : Tn F u (w.setRow Z cs) :=
  ⟨h.1, h.2.1, by rw [setRow_size]; exact h.2.2.1, fun k hk hn => by
    rw [setRow_other (fun e => by rcases hZ with g | g; exact hn (e ▸ g); omega)]
    exact h.2.2.2 k hk hn⟩
theorem kept_setRow {u w : World} (h : Kept u w) {Z : Nat} (hZ : u.heap.size ≤ Z) (cs : Array Value) : Kept u (w.setRow Z cs) :=
  kept_tn h (F := fun k => k = Z) (fun k e => by rw [e]; exact hZ) (tn_setRow (F := fun k => k = Z) tn_refl (Or.inl rfl) cs)
theorem idxF (X k : Nat) (h : (k : Int) < 64) (w : World) : (Instr.indexAt 34 (.pointer (some ⟨X, 1, none⟩)) (.int .i64 (k : Int))).run Tryz.prog w = .ok (.pointer (some ⟨X, 1 + k * 3, none⟩)) w := by go_simp
theorem wpList_load36 {ops : Array Oper} {rest : List Oper} {op : Oper} {act : Act} {w : World} {Q : Exit → Act → World → Prop} (hgd : op.guard = none) (x : Operand) (ho : op.op = .load 36 x) (Z : Nat) (hx : act.eval x = .pointer (some ⟨Z, 0, none⟩)) (cs : Array Value)
    (hld : (loadVar 36 ⟨Z, 0, none⟩).run Tryz.prog w = .ok (.agg cs) w) (h : wpList Tryz.prog ops Q rest (act.put op.dst (.agg cs)) w) : wpList Tryz.prog ops Q (op :: rest) act w :=
  wpList_plain hgd fun _ hK => by
    unfold Oper.wp execOp
    simp only [ho, hx, Instr.loadAt, Instr.sureAddr, Sem.run_bind, Sem.run_pure, Result.andThen_ok, hld]
    exact hK _ _ h
theorem wpList_store36 {ops : Array Oper} {rest : List Oper} {op : Oper} {act : Act} {w : World} {Q : Exit → Act → World → Prop} (hgd : op.guard = none) (x y : Operand) (ho : op.op = .store 36 x y) (Z : Nat) (hx : act.eval x = .pointer (some ⟨Z, 0, none⟩)) (cs : Array Value) (hy : act.eval y = .agg cs) (w2 : World)
    (hst : (storeVar 36 ⟨Z, 0, none⟩ (.agg cs)).run Tryz.prog w = .ok () w2) (h : wpList Tryz.prog ops Q rest (act.put op.dst undef) w2) : wpList Tryz.prog ops Q (op :: rest) act w :=
  wpList_plain hgd fun _ hK => by
    unfold Oper.wp execOp
    simp only [ho, hx, hy, Instr.storeAt, Instr.sureAddr, Sem.run_bind, Sem.run_pure, Result.andThen_ok, hst]
    exact hK _ _ h
theorem wpList_build36 {ops : Array Oper} {rest : List Oper} {op : Oper} {act : Act} {w : World} {Q : Exit → Act → World → Prop} (hgd : op.guard = none) (x y z : Operand) (ho : op.op = .build 36 #[(2, x), (3, y), (4, z)]) (a b d : Value) (hx : act.eval x = a) (hy : act.eval y = b) (hd : act.eval z = d) (cs : Array Value)
    (hb : (Instr.build 36 #[(2, a), (3, b), (4, d)]).run Tryz.prog w = .ok (.agg cs) w) (h : wpList Tryz.prog ops Q rest (act.put op.dst (.agg cs)) w) : wpList Tryz.prog ops Q (op :: rest) act w :=
  wpList_plain hgd fun _ hK => by
    unfold Oper.wp execOp
    simp only [ho, List.map_toArray, List.map_cons, List.map_nil, hx, hy, hd, Sem.run_bind, Sem.run_pure, Result.andThen_ok, hb]
    exact hK _ _ h
theorem wpList_build36z {ops : Array Oper} {rest : List Oper} {op : Oper} {act : Act} {w : World} {Q : Exit → Act → World → Prop} (hgd : op.guard = none) (ho : op.op = .build 36 #[]) (cs : Array Value)
    (hb : (Instr.build 36 #[]).run Tryz.prog w = .ok (.agg cs) w) (h : wpList Tryz.prog ops Q rest (act.put op.dst (.agg cs)) w) : wpList Tryz.prog ops Q (op :: rest) act w :=
  wpList_plain hgd fun _ hK => by
    unfold Oper.wp execOp
    simp only [ho, List.map_toArray, List.map_nil, Sem.run_bind, Sem.run_pure, Result.andThen_ok, hb]
    exact hK _ _ h
theorem resN {fn : Func} {p u : Tmp} (h : fn.results = #[.cell p 36, .tmp u]) (tmps : Array Value) {w : World} {Z : Nat} {cs : Array Value} {r : Value} (hp : tmps.getD p undef = .pointer (some ⟨Z, 0, none⟩)) (hu : tmps.getD u undef = r) (hld : (loadVar 36 ⟨Z, 0, none⟩).run Tryz.prog w = .ok (.agg cs) w) :
    (results fn tmps).run Tryz.prog w = .ok (.tuple #[.agg cs, r]) w := by
  have hp' : tmps[p]?.getD undef = .pointer (some ⟨Z, 0, none⟩) := by simpa using hp
  have hu' : tmps[u]?.getD undef = r := by simpa using hu
  simp [results, h, asAddr, Sem.run_bind, Sem.run_pure, Result.andThen, hp', hu', hld]
theorem resU {fn : Func} {p u : Tmp} (h : fn.results = #[.tmp u, .cell p 36]) (tmps : Array Value) {w : World} {Z : Nat} {cs : Array Value} {r : Value} (hp : tmps.getD p undef = .pointer (some ⟨Z, 0, none⟩)) (hu : tmps.getD u undef = r) (hld : (loadVar 36 ⟨Z, 0, none⟩).run Tryz.prog w = .ok (.agg cs) w) :
    (results fn tmps).run Tryz.prog w = .ok (.tuple #[r, .agg cs]) w := by
  have hp' : tmps[p]?.getD undef = .pointer (some ⟨Z, 0, none⟩) := by simpa using hp
  have hu' : tmps[u]?.getD undef = r := by simpa using hu
  simp [results, h, asAddr, Sem.run_bind, Sem.run_pure, Result.andThen, hp', hu', hld]
theorem resP {fn : Func} {p u t : Tmp} (h : fn.results = #[.tmp u, .tmp t, .cell p 36]) (tmps : Array Value) {w : World} {Z : Nat} {cs : Array Value} {r q : Value} (hp : tmps.getD p undef = .pointer (some ⟨Z, 0, none⟩)) (hu : tmps.getD u undef = r) (ht : tmps.getD t undef = q) (hld : (loadVar 36 ⟨Z, 0, none⟩).run Tryz.prog w = .ok (.agg cs) w) :
    (results fn tmps).run Tryz.prog w = .ok (.tuple #[r, q, .agg cs]) w := by
  have hp' : tmps[p]?.getD undef = .pointer (some ⟨Z, 0, none⟩) := by simpa using hp
  have hu' : tmps[u]?.getD undef = r := by simpa using hu
  have ht' : tmps[t]?.getD undef = q := by simpa using ht
  simp [results, h, asAddr, Sem.run_bind, Sem.run_pure, Result.andThen, hp', hu', ht', hld]
theorem resG {fn : Func} {p u t : Tmp} (h : fn.results = #[.cell t 42, .tmp u, .cell p 36]) (tmps : Array Value) {w : World} {X T Z : Nat} {cs : Array Value} {v0 v1 v2 v3 v4 v5 v6 v7 r : Value} (hp : tmps.getD p undef = .pointer (some ⟨Z, 0, none⟩)) (hu : tmps.getD u undef = r) (ht : tmps.getD t undef = .pointer (some ⟨X, 0, none⟩)) (hA : At w X #[v0, v1, v2, v3, v4, v5, v6, v7] T) (hld : (loadVar 36 ⟨Z, 0, none⟩).run Tryz.prog w = .ok (.agg cs) w) :
    (results fn tmps).run Tryz.prog w = .ok (.tuple #[.agg #[v0, v1, v2, v3, v4, v5, v6, v7], r, .agg cs]) w := by
  have hp' : tmps[p]?.getD undef = .pointer (some ⟨Z, 0, none⟩) := by simpa using hp
  have hu' : tmps[u]?.getD undef = r := by simpa using hu
  have ht' : tmps[t]?.getD undef = .pointer (some ⟨X, 0, none⟩) := by simpa using ht
  have h42 : (loadVar 42 ⟨X, 0, none⟩).run Tryz.prog w = .ok (.agg #[v0, v1, v2, v3, v4, v5, v6, v7]) w := run_loadVar_row _ _ T 42 _ (0, 0) _ hA Tryz.underlying42 rfl (by kernel_rfl)
  simp [results, h, asAddr, Sem.run_bind, Sem.run_pure, Result.andThen, hp', hu', ht', h42, hld]
end Go.Proofs.YthgbdaladngpdaaGreat

/- The contracts of the reference's order of records: which text stands ahead, which record does, how two stand to each other, their join. They turn nothing that was there. -/
namespace Go.Proofs.YthgbdaladngpdaaGreat
open Go.ChangeShapes Go.WideShapes Go.ChangeAt Go.RowKit
set_option linter.unusedVariables false
set_option maxRecDepth 100000
set_option linter.unusedSimpArgs false

theorem cb_take : ∀ (k : Nat) (a b : List UInt8), a.take k = b.take k → k ≤ a.length → k ≤ b.length → Lib.compareBytes a b = Lib.compareBytes (a.drop k) (b.drop k)
  | 0, a, b, _, _, _ => by simp
  | k + 1, [], b, _, h, _ => by simp at h
  | k + 1, _ :: _, [], _, _, h => by simp at h
  | k + 1, x :: a, y :: b, h, h1, h2 => by
    simp only [List.take_succ_cons, List.cons.injEq] at h
    obtain ⟨rfl, h⟩ := h
    have ih := cb_take k a b h (by simpa using h1) (by simpa using h2)
    have hx : ¬ x < x := by rw [UInt8.lt_iff_toNat_lt]; omega
    simp only [List.drop_succ_cons]
    rw [← ih]
    conv => lhs; unfold Lib.compareBytes
    rw [if_neg hx, if_neg hx]
/- The first bytes are the same, the next ones tell. -/
theorem cmpB_at {a b : ByteArray} {k : Nat} (ha : k < a.size) (hb : k < b.size) (h : a.data.toList.take k = b.data.toList.take k) (hne : a[k].toNat ≠ b[k].toNat) : (cmpB a b = -1) ↔ a[k].toNat < b[k].toNat := by
  have ha' : k < a.data.toList.length := by simpa using ha
  have hb' : k < b.data.toList.length := by simpa using hb
  unfold cmpB
  rw [cb_take k _ _ h (by omega) (by omega), List.drop_eq_getElem_cons ha', List.drop_eq_getElem_cons hb']
  have e1 : a.data.toList[k] = a[k] := rfl
  have e2 : b.data.toList[k] = b[k] := rfl
  rw [e1, e2]
  unfold Lib.compareBytes
  by_cases h1 : a[k].toNat < b[k].toNat
  · rw [if_pos (UInt8.lt_iff_toNat_lt.2 h1)]; simp [h1]
  · rw [if_neg (fun h => h1 (UInt8.lt_iff_toNat_lt.1 h)), if_pos (UInt8.lt_iff_toNat_lt.2 (by omega))]; simp [h1]
theorem cmpB_end {a b : ByteArray} {k : Nat} (h : a.data.toList.take k = b.data.toList.take k) (ha : k ≤ a.size) (hb : k ≤ b.size) (he : k = a.size ∨ k = b.size) : (cmpB a b = -1) ↔ a.size < b.size := by
  have sa : a.size = a.data.toList.length := by simp
  have sb : b.size = b.data.toList.length := by simp
  unfold cmpB
  rw [cb_take k _ _ h (by omega) (by omega)]
  rcases he with he | he
  · rw [List.drop_of_length_le (by omega : a.data.toList.length ≤ k)]
    by_cases h2 : k < b.data.toList.length
    · rw [List.drop_eq_getElem_cons h2]; simp [Lib.compareBytes]; omega
    · rw [List.drop_of_length_le (by omega : b.data.toList.length ≤ k)]; simp [Lib.compareBytes]; omega
  · rw [List.drop_of_length_le (by omega : b.data.toList.length ≤ k)]
    by_cases h2 : k < a.data.toList.length
    · rw [List.drop_eq_getElem_cons h2]; simp [Lib.compareBytes]; omega
    · rw [List.drop_of_length_le (by omega : a.data.toList.length ≤ k)]; simp [Lib.compareBytes]; omega
theorem take_next {a b : ByteArray} {k : Nat} (ha : k < a.size) (hb : k < b.size) (h : a.data.toList.take k = b.data.toList.take k) (he : a[k].toNat = b[k].toNat) : a.data.toList.take (k + 1) = b.data.toList.take (k + 1) := by
  rw [← one_more ha, ← one_more hb, h]
  congr 2
  exact UInt8.toNat_inj.1 he
theorem eq_decide {p : Prop} [Decidable p] {b : Prop} [Decidable b] (h : b ↔ p) : decide p = decide b := by
  by_cases hp : p
  · rw [decide_eq_true hp, decide_eq_true (h.2 hp)]
  · rw [decide_eq_false hp, decide_eq_false (fun x => hp (h.1 x))]
set_option maxHeartbeats 1600000 in
set_option maxRecDepth 100000 in
theorem ahead_text (a b : ByteArray) (ha : a.size ≤ maxLen) (hb : b.size ≤ maxLen) (w : World) :
    Calls Tryz.prog 60 #[.string a, .string b] w fun e w' => e = .returned (.bool (decide (cmpB a b = -1))) ∧ Kept w w' := by
  unfold maxLen at ha hb
  have K0 : Hid (Kept w w) := kept_refl w
  go_enter Tryz.func60, Tryz.ntmps60
  go_wp2
  go_loopw [5] (fun j wr => ∃ k : Nat, k ≤ a.size ∧ k ≤ b.size ∧ j = .int .i64 k ∧ Hid (Kept w wr) ∧ Hid (a.data.toList.take k = b.data.toList.take k)) (fun j _ => a.size - (intOf j).toNat)
  case atStart => exact ⟨0, Nat.zero_le _, Nat.zero_le _, rfl, K0, rfl⟩
  case round =>
    obtain ⟨k, hka, hkb, rfl, HK, HT⟩ := hrel
    by_cases h1 : k < a.size
    · by_cases h2 : k < b.size
      · by_cases h3 : a[k].toNat = b[k].toNat
        · have HN : Hid (a.data.toList.take (k + 1) = b.data.toList.take (k + 1)) := take_next h1 h2 HT.out h3
          have h3' : (((a[k].toNat : Int)) != (b[k].toNat : Int)) = false := by simp [h3]
          have HK2 : Hid (Kept w wr.drew) := kept_drew HK.out
          clear h3
          go_wp2
          go_quiet (fail)
          go_wp2
          go_roundw
          case rel => exact ⟨k + 1, by omega, by omega, by go_num, HK2, HN⟩
          case measure => simp [intOf]; omega
        · have HE : Hid (decide (a[k].toNat < b[k].toNat) = decide (cmpB a b = -1)) := by
            show _ = _
            have := cmpB_at h1 h2 HT.out h3
            exact eq_decide this
          have h3' : (((a[k].toNat : Int)) != (b[k].toNat : Int)) = true := by simp; omega
          have HK2 : Hid (Kept w wr.drew.drew) := kept_drew (kept_drew HK.out)
          clear h3
          go_wp2
          go_quiet (fail)
          go_wp2
          go_quiet (fail)
          go_wp2
          go_ret
          exact ⟨ret_bool HE.out, HK2.out⟩
      · have HE : Hid (decide (a.size < b.size) = decide (cmpB a b = -1)) := by
          show _ = _
          exact eq_decide (cmpB_end HT.out hka hkb (.inr (by omega)))
        go_wp2
        go_ret
        exact ⟨ret_bool HE.out, HK.out⟩
    · have HE : Hid (decide (a.size < b.size) = decide (cmpB a b = -1)) := by
        show _ = _
        exact eq_decide (cmpB_end HT.out hka hkb (.inl (by omega)))
      go_wp2
      go_ret
      exact ⟨ret_bool HE.out, HK.out⟩
def lessR (a b : R) : Bool := decide (cmpR a b = -1)
theorem orI_of {x y : Int} (h : x = 0) : orI x y = y := by unfold orI; rw [if_pos h]
theorem orI_ne {x y : Int} (h : x ≠ 0) : orI x y = x := by unfold orI; rw [if_neg h]
theorem less_1 {a b : R} (h : a.s ≠ b.s) : lt a.s b.s = lessR a b := by
  have h0 : cmp a.s b.s ≠ 0 := fun e => h ((cmp_zero _ _).1 e)
  unfold lessR cmpR
  rw [orI_ne h0, Bool.eq_iff_iff, lt_iff, decide_eq_true_iff]
  constructor
  · exact cmp_lt
  · intro e
    rcases cmp_parts a.s b.s with ⟨p, -⟩ | ⟨-, q⟩ | ⟨-, q⟩
    · exact p
    · omega
    · omega
theorem less_2 {a b : R} (h : a.s = b.s) (h2 : a.kind ≠ b.kind) : decide (a.kind < b.kind) = lessR a b := by
  have h0 : cmpI a.kind b.kind ≠ 0 := fun e => h2 ((cmpI_zero _ _).1 e)
  unfold lessR cmpR
  rw [orI_of ((cmp_zero _ _).2 h), orI_ne h0]
  have := cmpI_cases a.kind b.kind
  exact eq_decide (by omega)
theorem less_3 {a b : R} (h : a.s = b.s) (h2 : a.kind = b.kind) (h3 : a.body ≠ b.body) : decide (cmpB a.body b.body = -1) = lessR a b := by
  have h0 : cmpB a.body b.body ≠ 0 := fun e => h3 ((cmpB_zero _ _).1 e)
  unfold lessR cmpR
  rw [orI_of ((cmp_zero _ _).2 h), orI_of ((cmpI_zero _ _).2 h2), orI_ne h0]
theorem less_4 {a b : R} (h : a.s = b.s) (h2 : a.kind = b.kind) (h3 : a.body = b.body) (h4 : a.flags ≠ b.flags) : decide (a.flags < b.flags) = lessR a b := by
  have h0 : cmpI a.flags b.flags ≠ 0 := fun e => h4 ((cmpI_zero _ _).1 e)
  unfold lessR cmpR
  rw [orI_of ((cmp_zero _ _).2 h), orI_of ((cmpI_zero _ _).2 h2), orI_of ((cmpB_zero _ _).2 h3), orI_ne h0]
  have := cmpI_cases a.flags b.flags
  exact eq_decide (by omega)
theorem less_5 {a b : R} (h : a.s = b.s) (h2 : a.kind = b.kind) (h3 : a.body = b.body) (h4 : a.flags = b.flags) : decide (a.exp < b.exp) = lessR a b := by
  unfold lessR cmpR
  rw [orI_of ((cmp_zero _ _).2 h), orI_of ((cmpI_zero _ _).2 h2), orI_of ((cmpB_zero _ _).2 h3), orI_of ((cmpI_zero _ _).2 h4)]
  have := cmpI_cases a.exp b.exp
  exact eq_decide (by omega)
theorem bytes_ext (a b : ByteArray) (h : a.data.toList = b.data.toList) : a = b := by
  cases a; cases b; congr; exact Array.toList_inj.1 h
theorem bytes_ne {a b : ByteArray} (h : a ≠ b) : (!a.toList == b.toList) = true := by
  rw [ByteArray.toList_eq, ByteArray.toList_eq]
  have : (a.data.toList == b.data.toList) = false := by
    rw [beq_eq_false_iff_ne]
    exact fun e => h (bytes_ext _ _ e)
  rw [this]; rfl
theorem bytes_eq {a b : ByteArray} (h : a = b) : (!a.toList == b.toList) = false := by
  subst h; simp
set_option maxHeartbeats 1600000 in
theorem refLess_any (a b : R) (ha : a.body.size ≤ maxLen) (hb : b.body.size ≤ maxLen) (w : World) :
    Calls Tryz.prog 32 #[.agg #[.string a.key, .int .u64 a.s.p, .int .u32 a.s.l, .int .u8 a.s.n, .int .u8 a.kind, .int .u32 a.flags, .int .u64 a.exp, .string a.body], .agg #[.string b.key, .int .u64 b.s.p, .int .u32 b.s.l, .int .u8 b.s.n, .int .u8 b.kind, .int .u32 b.flags, .int .u64 b.exp, .string b.body]] w fun e w' => e = .returned (.bool (lessR a b)) ∧ Kept w w' := by
  have K0 : Hid (Kept w ((w.alloc (.cells #[.string a.key, .int .u64 a.s.p, .int .u32 a.s.l, .int .u8 a.s.n, .int .u8 a.kind, .int .u32 a.flags, .int .u64 a.exp, .string a.body] 42)).alloc (.cells #[.string b.key, .int .u64 b.s.p, .int .u32 b.s.l, .int .u8 b.s.n, .int .u8 b.kind, .int .u32 b.flags, .int .u64 b.exp, .string b.body] 42))) := kept_alloc (kept_alloc (kept_refl w) (.cells #[.string a.key, .int .u64 a.s.p, .int .u32 a.s.l, .int .u8 a.s.n, .int .u8 a.kind, .int .u32 a.flags, .int .u64 a.exp, .string a.body] 42)) (.cells #[.string b.key, .int .u64 b.s.p, .int .u32 b.s.l, .int .u8 b.s.n, .int .u8 b.kind, .int .u32 b.flags, .int .u64 b.exp, .string b.body] 42)
  have hE := eq_stamp a.s b.s
  by_cases h1 : a.s = b.s
  · have s1 : same a.s b.s = true := (same_iff _ _).2 h1
    by_cases h2 : a.kind = b.kind
    · have s2 : (a.kind != b.kind) = false := by simpa using h2
      by_cases h3 : a.body = b.body
      · have s3 := bytes_eq h3
        by_cases h4 : a.flags = b.flags
        · have s4 : (a.flags != b.flags) = false := by simpa using h4
          have HE : Hid (decide (a.exp < b.exp) = lessR a b) := less_5 h1 h2 h3 h4
          clear h1 h2 h3 h4 ha hb
          go_enter Tryz.func32, Tryz.ntmps32
          go_wp2_with fail
          go_ret
          exact ⟨ret_bool HE.out, K0.out⟩
        · have s4 : (a.flags != b.flags) = true := by simpa using h4
          have HE : Hid (decide (a.flags < b.flags) = lessR a b) := less_4 h1 h2 h3 h4
          clear h1 h2 h3 h4 ha hb
          go_enter Tryz.func32, Tryz.ntmps32
          go_wp2_with fail
          go_ret
          exact ⟨ret_bool HE.out, K0.out⟩
      · have s3 := bytes_ne h3
        have HE : Hid (decide (cmpB a.body b.body = -1) = lessR a b) := less_3 h1 h2 h3
        have hA := ahead_text a.body b.body ha hb
        clear h1 h2 h3 ha hb
        go_enter Tryz.func32, Tryz.ntmps32
        go_wp2_with fail
        refine (hA _).mono ?_
        rintro e w1 ⟨rfl, k1⟩
        have K1 := kept_trans K0.out k1
        clear k1 hA
        go_wp2_with fail
        go_ret
        exact ⟨ret_bool HE.out, K1⟩
    · have s2 : (a.kind != b.kind) = true := by simpa using h2
      have HE : Hid (decide (a.kind < b.kind) = lessR a b) := less_2 h1 h2
      clear h1 h2 ha hb
      go_enter Tryz.func32, Tryz.ntmps32
      go_wp2_with fail
      go_ret
      exact ⟨ret_bool HE.out, K0.out⟩
  · have s1 : same a.s b.s = false := (same_false _ _).2 h1
    have HE : Hid (lt a.s b.s = lessR a b) := less_1 h1
    clear h1 ha hb
    go_enter Tryz.func32, Tryz.ntmps32
    go_wp2_with fail
    refine (less_any a.s b.s _).mono ?_
    rintro e w1 ⟨rfl, k1⟩
    have K1 := kept_trans K0.out k1
    clear k1
    go_wp2_with fail
    go_ret
    exact ⟨ret_bool HE.out, K1⟩
end Go.Proofs.YthgbdaladngpdaaGreat

/- Records held against each other, field by field. -/
namespace Go.Proofs.YthgbdaladngpdaaGreat
open Go.ChangeShapes Go.WideShapes Go.ChangeAt Go.RowKit
set_option linter.unusedVariables false
set_option maxRecDepth 100000
set_option linter.unusedSimpArgs false

def sameT (a b : ByteArray) : Bool := a.toList == b.toList
theorem sameT_iff (a b : ByteArray) : sameT a b = true ↔ a = b := by
  unfold sameT
  rw [ByteArray.toList_eq, ByteArray.toList_eq, beq_iff_eq]
  exact ⟨fun h => bytes_ext _ _ h, fun h => by rw [h]⟩
def sameR (a b : R) : Bool := sameT a.key b.key && (same a.s b.s && (decide (a.kind = b.kind) && (decide (a.flags = b.flags) && (decide (a.exp = b.exp) && sameT a.body b.body))))
theorem sameR_iff (a b : R) : sameR a b = true ↔ a = b := by
  unfold sameR
  simp only [Bool.and_eq_true, sameT_iff, same_iff, decide_eq_true_eq]
  constructor
  · rintro ⟨h1, h2, h3, h4, h5, h6⟩; exact R.ext' h1 h2 h3 h4 h5 h6
  · rintro rfl; simp
set_option maxHeartbeats 800000 in
theorem eq_rec (a b : R) (w : World) : (Op.equalIn 10000 42 (.agg #[.string a.key, .int .u64 a.s.p, .int .u32 a.s.l, .int .u8 a.s.n, .int .u8 a.kind, .int .u32 a.flags, .int .u64 a.exp, .string a.body]) (.agg #[.string b.key, .int .u64 b.s.p, .int .u32 b.s.l, .int .u8 b.s.n, .int .u8 b.kind, .int .u32 b.flags, .int .u64 b.exp, .string b.body])).run Tryz.prog w = .ok (sameR a b) w := by
  go_simp
  unfold sameR sameT same
  repeat' split
  all_goals simp_all
theorem eq_self (a : R) (w : World) : (Op.equalIn 10000 42 (.agg #[.string a.key, .int .u64 a.s.p, .int .u32 a.s.l, .int .u8 a.s.n, .int .u8 a.kind, .int .u32 a.flags, .int .u64 a.exp, .string a.body]) (.agg #[.string a.key, .int .u64 a.s.p, .int .u32 a.s.l, .int .u8 a.s.n, .int .u8 a.kind, .int .u32 a.flags, .int .u64 a.exp, .string a.body])).run Tryz.prog w = .ok true w := by
  rw [eq_rec, (sameR_iff a a).2 rfl]
end Go.Proofs.YthgbdaladngpdaaGreat
