/- The contract of the program's Pull: what is pulled, behind the library's sort. Rows have at most 200 members, texts at most 3000 bytes. -/
import Derived.Test.YtgfmmipbadnhgaaSlSum
import Derived.Shelf.Sort.Plain
import Derived.Shelf.Slices.In.SortNone
import Derived.Sort.OwnSorted
namespace Go.Proofs.Ytgfmmipbadnhgaa
open Go.ChangeShapes Go.WideShapes Go.ChangeAt Go.RowKit
set_option linter.unusedVariables false
set_option linter.unusedSimpArgs false
set_option maxRecDepth 100000

/- Where the library's sort of texts lies in this program. -/
def renS : Go.Shelf.Ren := ⟨fun | 190 => 27 | 125 => 32 | 258 => 31 | 128 => 46 | 129 => 47 | 302 => 37 | 303 => 38 | 304 => 39 | 305 => 40 | 306 => 41 | 307 => 42 | 308 => 43 | 309 => 44 | 310 => 45 | 333 => 50 | 329 => 51 | 330 => 52 | 334 => 53 | 335 => 54 | 336 => 55 | 344 => 56 | n => n, fun | 31 => 32 | 9 => 9 | 3 => 3 | 46 => 58 | 0 => 0 | 51 => 37 | 53 => 36 | 4 => 4 | 183 => 67 | 182 => 66 | 131 => 72 | 5 => 5 | 218 => 78 | 222 => 82 | 228 => 85 | 229 => 86 | n => n, fun | n => n⟩
theorem layS : Go.Proofs.Lays.n190 Try.prog renS := {
  mixed := by kernel_rfl
  f125 := Try.func32.trans (congrArg some (by kernel_rfl))
  f128 := Try.func46.trans (congrArg some (by kernel_rfl))
  f129 := Try.func47.trans (congrArg some (by kernel_rfl))
  f190 := Try.func27.trans (congrArg some (by kernel_rfl))
  f258 := Try.func31.trans (congrArg some (by kernel_rfl))
  f302 := Try.func37.trans (congrArg some (by kernel_rfl))
  f303 := Try.func38.trans (congrArg some (by kernel_rfl))
  f304 := Try.func39.trans (congrArg some (by kernel_rfl))
  f305 := Try.func40.trans (congrArg some (by kernel_rfl))
  f306 := Try.func41.trans (congrArg some (by kernel_rfl))
  f307 := Try.func42.trans (congrArg some (by kernel_rfl))
  f308 := Try.func43.trans (congrArg some (by kernel_rfl))
  f309 := Try.func44.trans (congrArg some (by kernel_rfl))
  f310 := Try.func45.trans (congrArg some (by kernel_rfl))
  f329 := Try.func51.trans (congrArg some (by kernel_rfl))
  f330 := Try.func52.trans (congrArg some (by kernel_rfl))
  f333 := Try.func50.trans (congrArg some (by kernel_rfl))
  f334 := Try.func53.trans (congrArg some (by kernel_rfl))
  f335 := Try.func54.trans (congrArg some (by kernel_rfl))
  f336 := Try.func55.trans (congrArg some (by kernel_rfl))
  f344 := Try.func56.trans (congrArg some (by kernel_rfl))
  t0 := Try.underlying0
  a0 := Try.isAgg0
  z0 := Try.sizeOf0
  v0 := Try.zeroValue0
  t3 := Try.underlying3
  a3 := Try.isAgg3
  z3 := Try.sizeOf3
  v3 := Try.zeroValue3
  t4 := Try.underlying4
  a4 := Try.isAgg4
  z4 := Try.sizeOf4
  v4 := Try.zeroValue4
  t5 := Try.underlying5
  a5 := Try.isAgg5
  z5 := Try.sizeOf5
  v5 := Try.zeroValue5
  t9 := Try.underlying9
  a9 := Try.isAgg9
  z9 := Try.sizeOf9
  v9 := Try.zeroValue9
  t31 := Try.underlying32
  a31 := Try.isAgg32
  z31 := Try.sizeOf32
  v31 := Try.zeroValue32
  t46 := Try.underlying58
  a46 := Try.isAgg58
  z46 := Try.sizeOf58
  v46 := Try.zeroValue58
  t51 := Try.underlying37
  a51 := Try.isAgg37
  z51 := Try.sizeOf37
  v51 := Try.zeroValue37
  t53 := Try.underlying36
  a53 := Try.isAgg36
  z53 := Try.sizeOf36
  v53 := Try.zeroValue36
  t131 := Try.underlying72
  a131 := Try.isAgg72
  z131 := Try.sizeOf72
  v131 := Try.zeroValue72
  t182 := Try.underlying66
  a182 := Try.isAgg66
  z182 := Try.sizeOf66
  v182 := Try.zeroValue66
  t183 := Try.underlying67
  a183 := Try.isAgg67
  z183 := Try.sizeOf67
  v183 := Try.zeroValue67
  t218 := Try.underlying78
  a218 := Try.isAgg78
  z218 := Try.sizeOf78
  v218 := Try.zeroValue78
  t222 := Try.underlying82
  a222 := Try.isAgg82
  z222 := Try.sizeOf82
  v222 := Try.zeroValue82
  t228 := Try.underlying85
  a228 := Try.isAgg85
  z228 := Try.sizeOf85
  v228 := Try.zeroValue85
  t229 := Try.underlying86
  a229 := Try.isAgg86
  z229 := Try.sizeOf86
  v229 := Try.zeroValue86 }
/- Texts in order. -/
theorem le_cmp : ∀ a b : List UInt8, a ≤ b ↔ Lib.compareBytes a b ≤ 0
  | [], [] => by simp [Lib.compareBytes]
  | [], b :: bs => by simp [Lib.compareBytes]
  | a :: xs, [] => by simp [Lib.compareBytes]
  | a :: xs, b :: bs => by
    rw [List.cons_le_cons_iff, le_cmp xs bs]
    show _ ↔ (if a < b then (-1 : Int) else if b < a then 1 else Lib.compareBytes xs bs) ≤ 0
    rcases u8_cases a b with h | h | h
    · simp [h]
    · subst h
      have : ¬ a < a := fun g => by simp at g
      simp [this]
    · have h1 : ¬ a < b := fun g => by
        have := UInt8.lt_trans g h
        simp at this
      have h2 : a ≠ b := fun e => by subst e; simp at h
      simp [h1, h2, h]
def bsOf (l : List ByteArray) : List (List UInt8) := l.map (fun b => b.data.toList)
def ofBs (l : List (List UInt8)) : List ByteArray := l.map (fun b => ⟨b.toArray⟩)
theorem of_bs (l : List ByteArray) : ofBs (bsOf l) = l := by
  unfold ofBs bsOf
  induction l with
  | nil => rfl
  | cons b l ih =>
    cases b
    simp only [List.map_cons]
    rw [ih]
theorem bs_of (l : List (List UInt8)) : bsOf (ofBs l) = l := by
  unfold ofBs bsOf
  induction l with
  | nil => rfl
  | cons b l ih =>
    simp only [List.map_cons]
    rw [ih]
def sorted (l : List ByteArray) : List ByteArray := ofBs ((bsOf l).mergeSort fun x y => decide (x ≤ y))
theorem sorted_mem (l : List ByteArray) (q : ByteArray) : q ∈ sorted l ↔ q ∈ l := by
  have h := ((List.mergeSort_perm (bsOf l) fun x y => decide (x ≤ y)).map (fun b : List UInt8 => (⟨b.toArray⟩ : ByteArray))).mem_iff (a := q)
  show q ∈ ofBs _ ↔ _
  unfold ofBs
  rw [h]
  show q ∈ ofBs (bsOf l) ↔ _
  rw [of_bs]
theorem sorted_up (l : List ByteArray) (h : l.Nodup) : Kup (sorted l) := by
  have hn : (sorted l).Nodup := by
    have p : (sorted l).Perm l := by
      have := (List.mergeSort_perm (bsOf l) fun x y => decide (x ≤ y)).map (fun b : List UInt8 => (⟨b.toArray⟩ : ByteArray))
      have e : ofBs (bsOf l) = l := of_bs l
      unfold sorted
      unfold ofBs at e ⊢
      rw [e] at this
      exact this
    exact p.nodup_iff.2 h
  have hs : ((bsOf l).mergeSort fun x y => decide (x ≤ y)).Pairwise (fun a b => decide (a ≤ b) = true) := by
    refine List.pairwise_mergeSort (fun a b c h1 h2 => ?_) (fun a b => ?_) _
    · rw [decide_eq_true_eq, le_cmp] at *
      exact (cb_tr a b c h1 h2).1
    · rw [Bool.or_eq_true, decide_eq_true_eq, decide_eq_true_eq, le_cmp, le_cmp]
      have := cb_neg a b
      omega
  have hs2 : (sorted l).Pairwise (fun a b => cmpB a b ≤ 0) := by
    unfold sorted ofBs
    rw [List.pairwise_map]
    refine pw_more ?_ hs
    intro a b hab
    rw [decide_eq_true_eq, le_cmp] at hab
    unfold cmpB
    simpa using hab
  unfold Kup
  refine pw_more ?_ (List.Pairwise.and hs2 hn)
  rintro a b ⟨h1, h2⟩
  have : cmpB a b ≠ 0 := fun e => h2 ((cmpB_zero a b).1 e)
  omega
theorem encK_flat (l : List ByteArray) : flatE encK l = (bsOf l).map Go.Proofs.encStr := by
  unfold flatE bsOf
  induction l with
  | nil => rfl
  | cons b l ih =>
    rw [List.flatMap_cons, ih]
    cases b
    simp [encK, Go.Proofs.encStr]
theorem bs_len (l : List ByteArray) : (bsOf l).length = l.length := by unfold bsOf; simp
/- The library's sort at a row of one's own. -/
def SortC (ks : List ByteArray) (B : Nat) (v : Value) (w : World) (e : Ending) (w' : World) : Prop := e = .returned (.tuple #[]) ∧ Og encK 1 9 w' B v (sorted ks) ∧ w.grownBy w' v.ownBlock
theorem sort_any (ks : List ByteArray) (hl : ks.length ≤ 4096) (B : Nat) (v : Value) (w : World) (h : Og encK 1 9 w B v ks) : Calls Try.prog 27 #[v] w (SortC ks B v w) := by
  have hlen : (sorted ks).length = ks.length := by unfold sorted ofBs; rw [List.length_map, List.length_mergeSort, bs_len]
  rcases h.2 with ⟨rfl, hz⟩ | ⟨g, cap, cur, rfl, hbase, hb, h1, h2, h3, h4⟩
  · have e0 : ks = [] := List.length_eq_zero_iff.1 hz
    subst e0
    refine (Any.slices_Sort_string_none layS none 0 w).mono ?_
    rintro e w' ⟨rfl, rfl⟩
    refine ⟨rfl, ?_, ⟨rfl, rfl, rfl, Nat.le_refl _, fun _ _ _ => rfl⟩⟩
    · have : sorted [] = [] := List.length_eq_zero_iff.1 hlen
      rw [this]
      exact og_nil _ _ _ _ _
  · have ht : cur.toList.take (bsOf ks).length = (bsOf ks).map Go.Proofs.encStr := by
      rw [bs_len, ← encK_flat, ← h4, Nat.mul_one]
    have hrun := Any.slices_Sort_string layS g 0 cap (bsOf ks) w (holds_of_block hb ht) (Array.getElem?_eq_some_iff.1 hb).1 (by rw [bs_len]; omega)
    rw [bs_len] at hrun
    refine hrun.mono ?_
    rintro e w' ⟨rfl, n, os, rfl⟩
    have ho := ownsRow_sorted (n := n) (os := os) (ss := bsOf ks) (ts := (bsOf ks).mergeSort fun x y => decide (x ≤ y)) (by simp) hbase hb (by rw [bs_len]; exact h1) h2 h3
    refine ⟨rfl, ?_, grownBy_sorted _⟩
    unfold Og
    rw [encK_flat, hlen]
    unfold sorted
    rw [bs_of]
    rw [bs_len] at ho
    exact ho
/- What stands while a range goes on. -/
section
variable {κ ε : Type} {P : Program} {M : MapD κ ε} {w w' : World} {m r c cnt : Nat} {g : κ → Option ε} {left : κ → Bool}
theorem og_next {α : Type} {enc : α → List Value} {d T B : Nat} {v : Value} {xs : List α} (h : Og enc d T w B v xs) (gr : Gr P M w m r g c left cnt) (hg : w.grownBy w' (some r)) : Og enc d T w' B v xs := by
  obtain ⟨i1, i2, i3, i4, hi⟩ := gr_iter gr
  refine og_block h (fun q cur _ ha => hg.block q (at_lt ha) (fun e => ?_))
  injection e with e
  subst e
  unfold At at ha
  rw [ha] at hi
  cases hi
theorem gm_next {κ' ε' : Type} {M' : MapD κ' ε'} {g' : κ' → Option ε'} {m' c' : Nat} (h : Gm P M' w m' g' c') (gr : Gr P M w m r g c left cnt) (hg : w.grownBy w' (some r)) : Gm P M' w' m' g' c' := by
  obtain ⟨i1, i2, i3, i4, hi⟩ := gr_iter gr
  obtain ⟨es, clock, hb⟩ := gm_is h
  refine gm_block h (hg.block m' (gm_lt h) (fun e => ?_))
  injection e with e
  subst e
  rw [hb] at hi
  cases hi
end
theorem next_S {ops : Array Oper} {rest : List Oper} {o : Oper} {a : Act} {Q : Exit → Act → World → Prop} {w : World} {m r c cnt : Nat} {g : ByteArray → Option Sn} {left : ByteArray → Bool} (hg : o.guard = none) (s : Operand) (hop : o.op = Op.next s false) (hs : a.eval s = .pointer (some ⟨r, 0, none⟩)) (h : Gr Try.prog mapS w m r g c left cnt)
    (hDone : cnt = 0 → (∀ x, left x = false) → wpList Try.prog ops Q rest (a.put o.dst (.tuple #[.bool false])) w)
    (hMore : ∀ (x : ByteArray) (y : Sn) (w' : World) (cnt' : Nat), left x = true → g x = some y → Gr Try.prog mapS w' m r g c (fun q => left q && !decide (q = x)) cnt' → cnt' < cnt → w.grownBy w' (some r) → w'.heap.size = w.heap.size →
      (Instr.entry (.pointer (some ⟨r, 0, none⟩))).run Try.prog w' = .ok (.tuple #[.string x, .agg #[.string y.key, .int .u64 y.s.p, .int .u32 y.s.l, .int .u8 y.s.n, .int .u8 y.kind]]) w' → wpList Try.prog ops Q rest (a.put o.dst (.tuple #[.bool true, .string x, .agg #[.string y.key, .int .u64 y.s.p, .int .u32 y.s.l, .int .u8 y.s.n, .int .u8 y.kind]])) w') : wpList Try.prog ops Q (o :: rest) a w :=
  wpList_gnext mapS_ok hg s hop hs h hDone (fun x y w' cnt' _ h1 h2 h3 h4 h5 h6 h7 => hMore x y w' cnt' h1 h2 h3 h4 h5 h6 h7)
/- What has been pulled so far. -/
def PInv (l : List R) (g : ByteArray → Option Sn) (left : ByteArray → Bool) (xs : List ByteArray) : Prop := xs.Nodup ∧ ∀ q, q ∈ xs ↔ ∃ y, g q = some y ∧ left q = false ∧ cov (sums l) y = false
theorem pinv_start (l : List R) (g : ByteArray → Option Sn) : PInv l g (fun x => (g x).isSome) [] := by
  refine ⟨List.nodup_nil, fun q => ⟨fun h => (by cases h), fun ⟨y, h1, h2, _⟩ => ?_⟩⟩
  simp only [h1] at h2
  cases h2
theorem pinv_by {l : List R} {g : ByteArray → Option Sn} {left : ByteArray → Bool} {xs : List ByteArray} {x : ByteArray} {y : Sn} (h : PInv l g left xs) (hg : g x = some y) (hc : cov (sums l) y = true) : PInv l g (fun q => left q && !decide (q = x)) xs := by
  refine ⟨h.1, fun q => ?_⟩
  rw [h.2 q]
  constructor
  · rintro ⟨z, h1, h2, h3⟩
    exact ⟨z, h1, by simp [h2], h3⟩
  · rintro ⟨z, h1, h2, h3⟩
    refine ⟨z, h1, ?_, h3⟩
    by_cases e : q = x
    · subst e
      rw [hg] at h1
      injection h1 with h1
      rw [h1, h3] at hc
      cases hc
    · simpa [e] using h2
theorem pinv_in {l : List R} {g : ByteArray → Option Sn} {left : ByteArray → Bool} {xs : List ByteArray} {x : ByteArray} {y : Sn} (h : PInv l g left xs) (hl : left x = true) (hg : g x = some y) (hc : cov (sums l) y = false) : PInv l g (fun q => left q && !decide (q = x)) (xs ++ [x]) := by
  have hx : x ∉ xs := fun hx => by
    obtain ⟨_, _, h2, _⟩ := (h.2 x).1 hx
    rw [hl] at h2
    cases h2
  refine ⟨?_, fun q => ?_⟩
  · refine List.nodup_append.2 ⟨h.1, by simp, fun a ha b hb e => ?_⟩
    simp at hb
    subst e hb
    exact hx ha
  · rw [List.mem_append, h.2 q]
    by_cases e : q = x
    · subst e
      simp [hg, hc]
    · simp [e]
theorem best_open (l : List R) (t : List Sn) (q : ByteArray) : (∃ y, bestOf q none t = some y ∧ cov (sums l) y = false) ↔ Open l t q := by
  obtain ⟨b1, b2⟩ := best_on q t none (fun b e => by cases e)
  constructor
  · rintro ⟨y, h1, h2⟩
    obtain ⟨k1, k2, _, _⟩ := b1 y h1
    refine ⟨y, ?_, k1, h2⟩
    rcases k2 with k2 | k2
    · cases k2
    · exact k2
  · rintro ⟨s, h1, h2, h3⟩
    cases hb : bestOf q none t with
    | none => exact absurd h2 ((b2 hb).2 s h1)
    | some y =>
      obtain ⟨k1, k2, _, k4⟩ := b1 y hb
      refine ⟨y, rfl, (cov_false _ _).2 (fun z hz ez => ?_)⟩
      have hzs := (cov_false _ _).1 h3 z hz (by rw [ez, k1, h2])
      refine Classical.byContradiction fun hn => ?_
      exact not_trans hn (k4 s h1 h2) hzs
theorem pinv_end {l : List R} {t : List Sn} {left : ByteArray → Bool} {xs : List ByteArray} (h : PInv l (fun q => bestOf q none t) left xs) (hl : ∀ q, left q = false) : PullIs l t (sorted xs) := by
  refine ⟨sorted_up xs h.1, fun q => ?_⟩
  rw [sorted_mem, h.2 q, ← best_open]
  constructor
  · rintro ⟨y, h1, _, h3⟩
    exact ⟨y, h1, h3⟩
  · rintro ⟨y, h1, h3⟩
    exact ⟨y, h1, hl q, h3⟩
theorem best_key {t : List Sn} {q : ByteArray} {y : Sn} (h : bestOf q none t = some y) : y.key = q ∧ y ∈ t := by
  obtain ⟨b1, b2⟩ := best_on q t none (fun b e => by cases e)
  obtain ⟨k1, k2, _, _⟩ := b1 y h
  refine ⟨k1, ?_⟩
  rcases k2 with k2 | k2
  · cases k2
  · exact k2
set_option maxHeartbeats 3200000 in
theorem pull_is : PullsIs := by
  intro l t v u w hn ht hs hst h hu
  have HSt := hid hst
  have HR := hid h
  have HU := hid hu
  have HSo := hid (fun w h => seenOf_any l (by omega) v w h)
  have HC1 := hid (fun v w h => counting_any (sums l) (by rw [sums_len]; omega) (sml_sums hs) v w h)
  have HC2 := hid (fun w h => counting_any t (by omega) hst u w h)
  obtain ⟨g, hg⟩ : ∃ g, (fun q => bestOf q none t) = g := ⟨_, rfl⟩
  have HEnd : Hid (∀ v B u xs left, Og encK 1 9 u B v (sorted xs) → PInv l g left xs → (∀ q, left q = false) → Kept w u → PullR l t w (.returned v) u) := hid (fun v B u xs left h1 h2 h3 h4 => ⟨v, _, rfl, pinv_end (by rw [← hg] at h2; exact h2) h3, rg_own encK_ok h1, h4⟩)
  have HBK := hid (fun (q : ByteArray) (y : Sn) (h : g q = some y) => best_key (t := t) (by rw [← hg] at h; exact h))
  have HPs := hid (pinv_start l g)
  have HPb := hid (fun left xs x y => @pinv_by l g left xs x y)
  have HPi := hid (fun left xs x y => @pinv_in l g left xs x y)
  have HGg := hid hg
  have HLc := hid (lack_cov (sums l))
  clear hs hst h hu hg
  go_enter Try.func17, Try.ntmps17
  go_wp2_with fail
  refine (HSo.out w HR.out).mono ?_
  rintro e w1 ⟨v1, rfl, o1, -, k1⟩
  have HK1 := hid k1
  have HO1 := hid (rg_own encS_ok o1)
  clear o1 k1 HSo
  go_wp2_with fail
  refine (HC1.out v1 w1 HO1.out).mono ?_
  rintro e w2 ⟨m1, c1, rfl, g2, -, -, k2⟩
  have HM2 := hid g2
  have HK2 := hid (kept_trans HK1.out k2)
  clear g2 k2 HC1 HK1 HO1
  go_wp2_with fail
  refine (HC2.out w2 (rg_kept encS_ok HU.out HK2.out)).mono ?_
  rintro e w3 ⟨m2, c2, rfl, g3, hc2, -, k3⟩
  rw [HGg.out] at g3
  have HM3 := hid (gm_kept HM2.out k3)
  have HN3 := hid g3
  have HK3 := hid (kept_trans HK2.out k3)
  clear g3 k3 HC2 HK2 HM2
  go_wp2_with (at_range; go_must (refine wpList_grange mapS_ok rfl (.tmp 13) rfl rfl HN3.out ?_; intro w4 hr4 hk4))
  have HG4 := hid hr4
  have HM4 := hid (gm_kept HM3.out hk4)
  have HK4 := hid (kept_trans HK3.out hk4)
  have HRr : Hid (w.heap.size ≤ w3.heap.size) := hid HK3.out.2
  clear hr4 hk4 HM3 HN3
  go_frame
  generalize w3.heap.size = r at *
  go_loopw [6] (fun ks wr => ∃ (xs : List ByteArray) (left : ByteArray → Bool) (cnt : Nat), xs.length + cnt ≤ c2 ∧ Hid (Og encK 1 9 wr w.heap.size ks xs) ∧ Hid (Gr Try.prog mapS wr m2 r g c2 left cnt) ∧ Hid (Gm Try.prog mapS wr m1 (fun q => bestOf q none (sums l)) c1) ∧ Hid (PInv l g left xs) ∧ Hid (Kept w wr)) (fun _ wr => wr.rangeLeft m2 r)
  case atStart => exact ⟨[], _, c2, by simp, hid (og_nil _ _ _ _ _), HG4, HM4, HPs, HK4⟩
  case round =>
    obtain ⟨xs, left, cnt, hcn, HO, HG, HM, HP, HKr⟩ := hrel
    clear HG4 HM4 HK4 HPs
    have HCn : Hid (xs.length + cnt ≤ c2) := hid hcn
    clear hcn
    go_wp2_with (at_next; go_must (refine next_S rfl (.tmp 14) rfl rfl HG.out ?_ ?_))
    · intro _ hall
      have HAll := hid hall
      clear hall
      go_wp2_with fail
      refine (sort_any xs (by have := HCn.out; omega) _ _ wr HO.out).mono ?_
      rintro e w5 ⟨rfl, o5, g5⟩
      have HO5 := hid o5
      have HK5 := hid (kept_gr HKr.out g5 (fun j hj => og_lt HO.out hj))
      clear o5 g5
      go_wp2_with fail
      go_ret
      exact HEnd.out _ _ _ xs left HO5.out HP.out HAll.out HK5.out
    · intro x y w5 cnt5 hlx hgx hgr5 hlt5 hgb5 hsz5 hen5
      obtain ⟨hky, hyt⟩ := HBK.out x y hgx
      subst hky
      have HYs := hid (HSt.out y hyt)
      have HG5 := hid hgr5
      have HO5 := hid (og_next HO.out HG.out hgb5)
      have HM5 := hid (gm_next HM.out HG.out hgb5)
      have HK5 := hid (kept_gr HKr.out hgb5 (fun j hj => by injection hj with hj; have := HRr.out; omega))
      have HMe : Hid (cnt5 < wr.rangeLeft m2 r) := hid (by rw [gr_left HG.out]; exact hlt5)
      have HCn5 : Hid (xs.length + 1 + cnt5 ≤ c2) := hid (by have := HCn.out; omega)
      have HPb5 := hid (HPb.out left xs y.key y HP.out hgx)
      have HPi5 := hid (HPi.out left xs y.key y HP.out hlx hgx)
      clear hgr5 hgb5 hlt5 hsz5 hyt hlx hgx HO HM HKr HCn HP
      have zs := zeroS w5
      have HA6 := hid (at_new w5 #[.string y.key, .int .u64 y.s.p, .int .u32 y.s.l, .int .u8 y.s.n, .int .u8 y.kind] 43)
      have HG6 := hid (gr_kept HG5.out (kept_alloc (kept_refl w5) (.cells #[.string y.key, .int .u64 y.s.p, .int .u32 y.s.l, .int .u8 y.s.n, .int .u8 y.kind] 43)))
      have HO6 := hid (og_stays HO5.out (kept_alloc (kept_refl w5) (.cells #[.string y.key, .int .u64 y.s.p, .int .u32 y.s.l, .int .u8 y.s.n, .int .u8 y.kind] 43)))
      have HM6 := hid (gm_kept HM5.out (kept_alloc (kept_refl w5) (.cells #[.string y.key, .int .u64 y.s.p, .int .u32 y.s.l, .int .u8 y.s.n, .int .u8 y.kind] 43)))
      have HK6 := hid (kept_alloc HK5.out (.cells #[.string y.key, .int .u64 y.s.p, .int .u32 y.s.l, .int .u8 y.s.n, .int .u8 y.kind] 43))
      clear HG HG5 HO5 HM5 HK5
      go_wp2_with fail
      clear zs hen5
      generalize w5.alloc (.cells #[.string y.key, .int .u64 y.s.p, .int .u32 y.s.l, .int .u8 y.s.n, .int .u8 y.kind] 43) = w6 at *
      have hC := lacks_any m1 c1 _ y (by have := HYs.out; unfold maxLen; omega) w6 HM6.out
      rw [HLc.out] at hC
      refine hC.mono ?_
      rintro e w7 ⟨rfl, k7⟩
      have HG7 := hid (gr_kept HG6.out k7)
      have HO7 := hid (og_stays HO6.out k7)
      have HM7 := hid (gm_kept HM6.out k7)
      have HK7 := hid (kept_trans HK6.out k7)
      clear k7 hC HG6 HO6 HM6 HK6 HA6
      cases hc : cov (sums l) y with
      | true =>
        simp only [Bool.not_true]
        go_wp2_with fail
        go_roundw
        case rel => exact ⟨xs, _, cnt5, by have := HCn5.out; omega, HO7, HG7, HM7, hid (HPb5.out hc), HK7⟩
        case measure => rw [gr_left HG7.out]; exact HMe.out
      | false =>
        simp only [Bool.not_false]
        go_wp2_with fail
        refine (clone_any y.key (by have := HYs.out; omega) w7).mono ?_
        rintro e w8 ⟨rfl, b8⟩
        have k8 := kept_below b8
        have HG8 := hid (gr_kept HG7.out (kept_alloc k8 (.cells #[.string y.key] 9)))
        have HO8 := hid (og_stays HO7.out (kept_alloc k8 (.cells #[.string y.key] 9)))
        have HM8 := hid (gm_kept HM7.out (kept_alloc k8 (.cells #[.string y.key] 9)))
        have HK8 := hid (kept_trans HK7.out (kept_alloc k8 (.cells #[.string y.key] 9)))
        have HAl := hid (rg_alone encK_ok (y := y.key) (at_new w8 #[.string y.key] 9))
        have HBw : Hid (w.heap.size ≤ (w8.alloc (.cells #[.string y.key] 9)).heap.size) := hid HK8.out.2
        clear k8 b8 HG7 HO7 HM7 HK7
        go_wp2_with (at_builtin; go_must (refine wpList_gapp rfl (.tmp 23) (.tmp 26) rfl encK_ok tyK (by decide) w.heap.size _ _ _ _ rfl HO8.out rfl HAl.out (by have := HCn5.out; simp; omega) HBw.out ?_; intro v9 w9 hown9 hgrow9 hnil9))
        have HO9 := hid hown9
        have HG9 := hid (gr_row HG8.out HO8.out hgrow9)
        have HM9 := hid (gm_row HM8.out HO8.out hgrow9)
        have HK9 := hid (kept_gr HK8.out hgrow9 (fun j hj => og_lt HO8.out hj))
        clear hown9 hgrow9 hnil9
        go_roundw
        case rel => exact ⟨xs ++ [y.key], _, cnt5, by have := HCn5.out; simp; omega, HO9, HG9, HM9, hid (HPi5.out hc), HK9⟩
        case measure => rw [gr_left HG9.out]; exact HMe.out
end Go.Proofs.Ytgfmmipbadnhgaa
