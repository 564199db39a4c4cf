/- The contract of New: a table of the least power of two of slots that is at least twice its keys, all of them empty; or none, where there may be none. A table as a map: what it has of each key, and what setting and dropping make of that. The chapter's example, walked. A list of numbers as a ring of links: who stands ahead of a number, who behind it. What taking a number out, and putting one first, make of the ring; how it is gone through. Plain mathematics, no condition. A list in memory: its object of one cell, its row of links; and the contracts of the functions that tell its end, whether it  -/
import Derived.Test.YthgbdaladngpdaaGreatP04
import Derived.Laws.MakeOwn
import Derived.BigQuiet
import Derived.Deep.RegionHeld3
/- The contract of New: a table of the least power of two of slots that is at least twice its keys, all of them empty; or none, where there may be none. -/
namespace Go.Proofs.YthgbdaladngpdaaGreat.Slo
open Go.ChangeShapes Go.WideShapes Go.ChangeAt Go.RowKit
set_option linter.unusedVariables false
set_option maxRecDepth 100000
set_option linter.unusedSimpArgs false

/- How many slots there are for n keys. -/
structure Size (n m : Nat) : Prop where
  fit : 2 * n ≤ m
  low : m ≤ 4096
  pow : ∃ j, m = 2 ^ j ∧ ∀ i, i < j → 2 ^ i < 2 * n
theorem size_one {n m m' : Nat} (h : Size n m) (g : Size n m') : m = m' := by
  obtain ⟨j, rfl, hj⟩ := h.pow
  obtain ⟨i, rfl, hi⟩ := g.pow
  have h1 := h.fit
  have g1 := g.fit
  rcases Nat.lt_trichotomy j i with e | e | e
  · have := hi j e; omega
  · rw [e]
  · have := hj i e; omega
theorem info66 : (Tryz.prog.info? 105).map (fun i => (i.zero, i.size, i.bytes)) = some (some (.agg #[.bool false, .string ⟨#[]⟩, .int .i64 0]), 3, 32) := by kernel_rfl
theorem make_slots (w : World) (n : Nat) (hn : n ≤ 4096) :
    (Instr.makeSlice 106 (.int .i64 (n : Int)) (.int .i64 (n : Int))).run Tryz.prog w = .ok (.slice (some ⟨w.heap.size, 0, none⟩) n n) (w.alloc (.cells (madeCells #[.bool false, .string ⟨#[]⟩, .int .i64 0] (n * 3)) 105)) := by
  obtain ⟨i0, hi, hz0, hz1, hz2⟩ := info_parts info66
  have := run_make (P := Tryz.prog) w 106 105 i0 _ Tryz.underlying106 hi hz0 .i64 .i64 (n : Int) (n : Int) (by omega) (by omega) (by rw [hz2]; omega) (by omega)
  rw [this, hz1]
  rfl
theorem made_size (n : Nat) (z : Array Value) : (madeCells z n).size = n := by unfold madeCells; simp
theorem made_cell3 (a b c : Value) (n j : Nat) (hj : j < n) : (madeCells #[a, b, c] (n * 3))[j * 3]? = some a ∧ (madeCells #[a, b, c] (n * 3))[j * 3 + 1]? = some b ∧ (madeCells #[a, b, c] (n * 3))[j * 3 + 2]? = some c := by
  unfold madeCells
  refine ⟨?_, ?_, ?_⟩
  · rw [Array.getElem?_map, Array.getElem?_range, if_pos (by omega)]
    have e : (j * 3) % (#[a, b, c] : Array Value).size = 0 := by show (j * 3) % 3 = 0; omega
    simp only [Option.map_some, e]
    rfl
  · rw [Array.getElem?_map, Array.getElem?_range, if_pos (by omega)]
    have e : (j * 3 + 1) % (#[a, b, c] : Array Value).size = 1 := by show (j * 3 + 1) % 3 = 1; omega
    simp only [Option.map_some, e]
    rfl
  · rw [Array.getElem?_map, Array.getElem?_range, if_pos (by omega)]
    have e : (j * 3 + 2) % (#[a, b, c] : Array Value).size = 2 := by show (j * 3 + 2) % 3 = 2; omega
    simp only [Option.map_some, e]
    rfl
theorem row_made (w : World) (T n : Nat) : RowT (w.alloc (.cells (madeCells #[.bool false, .string ⟨#[]⟩, .int .i64 0] (n * 3)) T)) T w.heap.size n (fun _ => no) :=
  ⟨_, at_new w _ T, made_size _ _, fun i hi => made_cell3 _ _ _ n i hi⟩
theorem ok_fresh {m : Nat} (h : 0 < m) : Ok (hm m) m (fun _ => no) := ok_new (fun k => hm_lt h k)
def mayN (n : Int) : Prop := 1 ≤ n ∧ n ≤ 1024
set_option maxHeartbeats 800000 in
theorem new_bad (n : Int) (h : ¬ mayN n) (w : World) : Calls Tryz.prog 61 #[.int .i64 n] w fun e w' => e = .returned (.tuple #[.pointer none, .int .i64 1]) ∧ w' = w := by
  by_cases h1 : n < 1
  · clear h
    go_enter Tryz.func61, Tryz.ntmps61
    go_wp2_with fail
    go_ret2
    exact ⟨rfl, rfl⟩
  · have h2 : 1024 < n := by unfold mayN at h; omega
    have h1' : decide (n < 1) = false := by simpa using h1
    clear h
    go_enter Tryz.func61, Tryz.ntmps61
    go_wp2_with fail
    go_ret2
    exact ⟨rfl, rfl⟩
/- What New answers and leaves. -/
def NewC (n : Nat) (w : World) (e : Ending) (w' : World) : Prop := ∃ X R m, e = .returned (.tuple #[.pointer (some ⟨X, 0, none⟩), .int .i64 0]) ∧ Size n m ∧ w.heap.size ≤ X ∧ w.heap.size ≤ R ∧ Kept w w' ∧ Good w' X R m n (fun _ => no)
set_option maxHeartbeats 1600000 in
theorem new_any (n : Nat) (h1 : 1 ≤ n) (h2 : n ≤ 1024) (w : World) :
    Calls Tryz.prog 61 #[.int .i64 (n : Int)] w (NewC n w) := by
  have d1 : decide ((n : Int) < 1) = false := by simp; omega
  have d2 : decide ((1024 : Int) < (n : Int)) = false := by simp; omega
  go_enter Tryz.func61, Tryz.ntmps61
  go_wp2_with fail
  go_loop [4] (fun i => ∃ m : Nat, i = .int .i64 (m : Int) ∧ 1 ≤ m ∧ m ≤ 4096 ∧ Hid (∃ j, m = 2 ^ j ∧ ∀ i, i < j → 2 ^ i < 2 * n)) (fun i => 5000 - (intOf i).toNat)
  case atStart => exact ⟨1, rfl, Nat.le_refl _, by omega, hid ⟨0, rfl, fun i hi => absurd hi (by omega)⟩⟩
  case round =>
    obtain ⟨m, rfl, m1, m4, HP⟩ := hrel
    by_cases hlt : m < 2 * n
    · have hl2 : (m : Int) < 2 * (n : Int) := by omega
      have HN : Hid (∃ j, m * 2 = 2 ^ j ∧ ∀ i, i < j → 2 ^ i < 2 * n) := by
        obtain ⟨j, hj, hi⟩ := HP.out
        refine hid ⟨j + 1, by rw [Nat.pow_succ, hj], fun i h => ?_⟩
        rcases (show i < j ∨ i = j by omega) with e | e
        · exact hi i e
        · rw [e, ← hj]; exact hlt
      go_wp2_with fail
      go_round
      case rel => exact ⟨m * 2, by go_num, by omega, by omega, HN⟩
      case measure => simp [intOf]; omega
    · have hl2 : ¬ (m : Int) < 2 * (n : Int) := by omega
      have HZ := hid (Size.mk (n := n) (m := m) (by omega) m4 HP.out)
      have hmk := make_slots w m m4
      have HR := hid (row_made w 105 m)
      have HK := hid (kept_alloc (kept_refl w) (.cells (madeCells #[.bool false, .string ⟨#[]⟩, .int .i64 0] (m * 3)) 105))
      have HS : Hid ((w.alloc (.cells (madeCells #[.bool false, .string ⟨#[]⟩, .int .i64 0] (m * 3)) 105)).heap.size = w.heap.size + 1) := hid (by simp)
      clear HP
      generalize w.alloc (.cells (madeCells #[.bool false, .string ⟨#[]⟩, .int .i64 0] (m * 3)) 105) = w1 at *
      generalize hRr : w.heap.size = R at *
      have HRr := hid hRr
      clear hRr
      go_wp2_with fail
      go_ret2
      refine ⟨w1.heap.size, R, m, rfl, HZ.out, by have := HS.out; have := HRr.out; omega, Nat.le_of_eq HRr.out, kept_alloc HK.out _, ⟨⟨?_, row_alloc HR.out _⟩, ok_fresh (by omega), h1, HZ.out.fit, by rw [cnt_new]; omega, m4, fun _ => by decide⟩⟩
      rw [cnt_new]
      exact at_new w1 _ 108
end Go.Proofs.YthgbdaladngpdaaGreat.Slo

/- A table as a map: what it has of each key, and what setting and dropping make of that. The chapter's example, walked. -/
namespace Go.Proofs.YthgbdaladngpdaaGreat.Slo
open Go.ChangeShapes Go.WideShapes Go.ChangeAt Go.RowKit
set_option linter.unusedVariables false
set_option maxRecDepth 100000
set_option linter.unusedSimpArgs false

def mp (m : Nat) (L : Tb) (k : ByteArray) : Option Int := if (L (spot (hm m) m L k)).taken = true then some (L (spot (hm m) m L k)).v else none
section
variable {m most : Nat} {L : Tb} {k : ByteArray} {v : Int}
theorem mp_some (ok : Ok (hm m) m L) (c : cnt L m < m) (k : ByteArray) (v : Int) : mp m L k = some v ↔ ∃ i, L i = ⟨true, k, v⟩ := by
  have f := spot_found (k := k) ok c
  unfold mp
  constructor
  · intro h
    by_cases t : (L (spot (hm m) m L k)).taken = true
    · rw [if_pos t] at h
      refine ⟨spot (hm m) m L k, ?_⟩
      have h1 := f.mine t
      injection h with h2
      revert h1 t h2
      generalize L (spot (hm m) m L k) = s
      rcases s with ⟨a, b, d⟩
      intro h1 t h2
      simp_all
    · rw [if_neg t] at h; cases h
  · rintro ⟨i, hi⟩
    have g := has_found ok (k := k) (i := i) ⟨by rw [hi], by rw [hi]⟩
    rw [found_one f g, hi]
    simp
theorem mp_none (ok : Ok (hm m) m L) (c : cnt L m < m) (k : ByteArray) : mp m L k = none ↔ ∀ i, ¬ Has L k i := by
  constructor
  · intro h i g
    have := (mp_some ok c k (L i).v).2 ⟨i, by have := g.1; have := g.2; revert this; revert this; generalize L i = s; rcases s with ⟨a, b, d⟩; intro h1 h2; simp_all⟩
    rw [h] at this; cases this
  · intro h
    cases e : mp m L k with
    | none => rfl
    | some v =>
      obtain ⟨i, hi⟩ := (mp_some ok c k v).1 e
      exact absurd ⟨by rw [hi], by rw [hi]⟩ (h i)
theorem mp_ext {M : Tb} (ok : Ok (hm m) m L) (c : cnt L m < m) (ok' : Ok (hm m) m M) (c' : cnt M m < m) (k : ByteArray) (o : Option Int) (h : ∀ v, (∃ i, L i = ⟨true, k, v⟩) ↔ o = some v) : mp m L k = o := by
  cases e : mp m L k with
  | none =>
    cases o with
    | none => rfl
    | some v => have := (mp_some ok c k v).2 ((h v).2 rfl); rw [e] at this; cases this
  | some v => exact ((h v).1 ((mp_some ok c k v).1 e)).symm
theorem taken_mp : (L (spot (hm m) m L k)).taken = (mp m L k).isSome := by
  unfold mp
  by_cases t : (L (spot (hm m) m L k)).taken = true
  · rw [if_pos t, t]; rfl
  · rw [if_neg t]; simpa using t
theorem valI_mp : valI m L k = (mp m L k).getD 0 := by
  unfold mp valI
  by_cases t : (L (spot (hm m) m L k)).taken = true
  · rw [if_pos t, if_pos t]; rfl
  · rw [if_neg t, if_neg t]; rfl
theorem slotI_mp : slotI m L k = if (mp m L k).isSome = true then ((spot (hm m) m L k : Nat) : Int) else -1 := by
  unfold slotI; rw [taken_mp]
theorem mp_new (h : 0 < m) (k : ByteArray) : mp m (fun _ => no) k = none := by
  refine (mp_none (ok_fresh h) ?_ k).2 (fun i g => by cases g.1)
  rw [cnt_new]; exact h
theorem set_err (L : Tb) (k : ByteArray) (v : Int) : (setT (hm m) m most L k v).1 = if mp m L k = none ∧ cnt L m = most then 6 else 0 := by
  unfold setT mp
  by_cases t : (L (spot (hm m) m L k)).taken = true
  · rw [if_pos t, if_pos t]; simp
  · rw [if_neg t, if_neg t]
    by_cases c : cnt L m = most
    · rw [if_pos c, if_pos ⟨rfl, c⟩]
    · rw [if_neg c, if_neg (fun h => c h.2)]
theorem set_full (L : Tb) (k : ByteArray) (v : Int) (h1 : mp m L k = none) (h2 : cnt L m = most) : (setT (hm m) m most L k v).2 = L := by
  unfold setT
  unfold mp at h1
  by_cases t : (L (spot (hm m) m L k)).taken = true
  · rw [if_pos t] at h1; cases h1
  · rw [if_neg t, if_pos h2]
theorem set_puts (L : Tb) (k : ByteArray) (v : Int) (h : ¬ (mp m L k = none ∧ cnt L m = most)) : (setT (hm m) m most L k v).2 = upd L (spot (hm m) m L k) ⟨true, k, v⟩ := by
  unfold setT
  by_cases t : (L (spot (hm m) m L k)).taken = true
  · rw [if_pos t]
  · rw [if_neg t]
    by_cases c : cnt L m = most
    · exact absurd ⟨by unfold mp; rw [if_neg t], c⟩ h
    · rw [if_neg c]
theorem set_mp {w w' : World} {X R : Nat} (g : Good w X R m most L) (g' : Good w' X R m most (setT (hm m) m most L k v).2) (h : ¬ (mp m L k = none ∧ cnt L m = most)) (q : ByteArray) : mp m (setT (hm m) m most L k v).2 q = if q = k then some v else mp m L q := by
  have e := set_puts L k v h
  rw [e] at g' ⊢
  refine mp_ext g'.ok g'.free g'.ok g'.free q _ (fun x => ?_)
  rw [ent_put g.ok (spot_found g.ok g.free) v ⟨true, q, x⟩ rfl]
  by_cases hq : q = k
  · subst hq
    rw [if_pos rfl]
    constructor
    · rintro (h | h)
      · injection h with _ _ h; rw [h]
      · exact absurd rfl h.2
    · intro h; injection h with h; rw [h]; exact .inl rfl
  · rw [if_neg hq, mp_some g.ok g.free]
    constructor
    · rintro (h | h)
      · injection h with _ h _; exact absurd h hq
      · exact h.1
    · intro h; exact .inr ⟨h, hq⟩
theorem set_cnt {w : World} {X R : Nat} (g : Good w X R m most L) (h : ¬ (mp m L k = none ∧ cnt L m = most)) : cnt (setT (hm m) m most L k v).2 m = cnt L m + if mp m L k = none then 1 else 0 := by
  rw [set_puts L k v h]
  have := cnt_upd L (i := spot (hm m) m L k) (n := m) ⟨true, k, v⟩ (spot_found g.ok g.free).lt
  have t := taken_mp (m := m) (L := L) (k := k)
  rw [t] at this
  cases e : mp m L k with
  | none => rw [e] at this; simpa using this
  | some x => rw [e] at this; simpa using this
theorem drop_told (L : Tb) (k : ByteArray) : (dropT (hm m) m L k).1 = (mp m L k).isSome := by
  unfold dropT mp
  by_cases t : (L (spot (hm m) m L k)).taken = true
  · rw [if_pos t, if_pos t]; rfl
  · rw [if_neg t, if_neg t]; rfl
theorem drop_none (L : Tb) (k : ByteArray) (h : mp m L k = none) : (dropT (hm m) m L k).2 = L := by
  unfold dropT
  unfold mp at h
  by_cases t : (L (spot (hm m) m L k)).taken = true
  · rw [if_pos t] at h; cases h
  · rw [if_neg t]
theorem drop_mp {w w' : World} {X R : Nat} (g : Good w X R m most L) (g' : Good w' X R m most (dropT (hm m) m L k).2) (q : ByteArray) : mp m (dropT (hm m) m L k).2 q = if q = k then none else mp m L q := by
  cases e : mp m L k with
  | none =>
    rw [drop_none L k e]
    by_cases hq : q = k
    · rw [if_pos hq, hq, e]
    · rw [if_neg hq]
  | some x =>
    have t : (L (spot (hm m) m L k)).taken = true := by rw [taken_mp, e]; rfl
    have f := spot_found (k := k) g.ok g.free
    have hk := f.mine t
    have ed : (dropT (hm m) m L k).2 = closed (hm m) m L (spot (hm m) m L k) := by unfold dropT; rw [if_pos t]
    have hc := (closed_all g.ok g.free t).2.2
    rw [ed] at g' ⊢
    refine mp_ext g'.ok g'.free g'.ok g'.free q _ (fun y => ?_)
    rw [hc ⟨true, q, y⟩ rfl, hk]
    by_cases hq : q = k
    · subst hq
      rw [if_pos rfl]
      constructor
      · rintro ⟨_, h⟩; exact absurd rfl h
      · intro h; cases h
    · rw [if_neg hq, mp_some g.ok g.free]
      exact ⟨fun h => h.1, fun h => ⟨h, hq⟩⟩
theorem drop_cnt {w : World} {X R : Nat} (g : Good w X R m most L) : cnt (dropT (hm m) m L k).2 m + (if mp m L k = none then 0 else 1) = cnt L m := by
  cases e : mp m L k with
  | none => rw [drop_none L k e]; simp
  | some x =>
    have t : (L (spot (hm m) m L k)).taken = true := by rw [taken_mp, e]; rfl
    have ed : (dropT (hm m) m L k).2 = closed (hm m) m L (spot (hm m) m L k) := by unfold dropT; rw [if_pos t]
    rw [ed]
    simpa using (closed_all g.ok g.free t).2.1
end
/- The chapter's example. -/
abbrev tA : ByteArray := ⟨#[97]⟩
abbrev tB : ByteArray := ⟨#[98]⟩

end Go.Proofs.YthgbdaladngpdaaGreat.Slo

/- A list of numbers as a ring of links: who stands ahead of a number, who behind it. What taking a number out, and putting one first, make of the ring; how it is gone through. Plain mathematics, no condition. -/
namespace Go.Proofs.YthgbdaladngpdaaGreat.Lru
set_option linter.unusedVariables false
set_option maxRecDepth 100000

def upd (f : Nat → Nat) (a v : Nat) : Nat → Nat := fun i => if i = a then v else f i
theorem upd_at (f : Nat → Nat) (a v : Nat) : upd f a v a = v := if_pos rfl
theorem upd_ne (f : Nat → Nat) {a i : Nat} (v : Nat) (h : i ≠ a) : upd f a v i = f i := if_neg h

def Chain (A B : Nat → Nat) : List Nat → Prop
  | x :: y :: t => B x = y ∧ A y = x ∧ Chain A B (y :: t)
  | _ => True
section
variable {A B A' B' : Nat → Nat}
theorem chain_congr : ∀ (s : List Nat), (∀ x, x ∈ s.dropLast → B' x = B x) → (∀ x, x ∈ s.tail → A' x = A x) → Chain A B s → Chain A' B' s
  | [], _, _, _ => trivial
  | [_], _, _, _ => trivial
  | x :: y :: t, hB, hA, h => by
    refine ⟨(hB x (by simp)).trans h.1, (hA y (by simp)).trans h.2.1, chain_congr (y :: t) (fun z hz => hB z ?_) (fun z hz => hA z ?_) h.2.2⟩
    · rw [List.dropLast_cons_of_ne_nil (by simp)]; exact List.mem_cons_of_mem _ hz
    · exact List.mem_cons_of_mem _ hz
theorem chain_join : ∀ (p : List Nat) (x : Nat) (q : List Nat), Chain A B (p ++ x :: q) ↔ Chain A B (p ++ [x]) ∧ Chain A B (x :: q)
  | [], x, q => ⟨fun h => ⟨trivial, h⟩, fun h => h.2⟩
  | [y], x, q => ⟨fun h => ⟨⟨h.1, h.2.1, trivial⟩, h.2.2⟩, fun h => ⟨h.1.1, h.1.2.1, h.2⟩⟩
  | y :: z :: p, x, q => by
    have ih := chain_join (z :: p) x q
    constructor
    · intro h; exact ⟨⟨h.1, h.2.1, (ih.1 h.2.2).1⟩, (ih.1 h.2.2).2⟩
    · intro h; exact ⟨h.1.1, h.1.2.1, ih.2 ⟨h.1.2.2, h.2⟩⟩
theorem chain_at : ∀ {s : List Nat} {k x y : Nat}, Chain A B s → s[k]? = some x → s[k + 1]? = some y → B x = y ∧ A y = x
  | [], _, _, _, _, h, _ => by simp at h
  | [_], k, _, _, _, _, h => by simp at h
  | a :: b :: t, 0, x, y, h, h1, h2 => by
    simp at h1 h2
    subst h1 h2
    exact ⟨h.1, h.2.1⟩
  | a :: b :: t, k + 1, x, y, h, h1, h2 => chain_at (s := b :: t) (k := k) h.2.2 (by simpa using h1) (by simpa using h2)
end
/- The ring of a list: its numbers and, behind the last one, n, which is none; whoever isn't there stands alone. -/
structure Ring (n : Nat) (A B : Nat → Nat) (l : List Nat) : Prop where
  chain : Chain A B (n :: (l ++ [n]))
  once : l.Nodup
  low : ∀ x, x ∈ l → x < n
  out : ∀ i, i < n → i ∉ l → A i = i ∧ B i = i
def wo (l : List Nat) (i : Nat) : List Nat := l.filter (fun x => x != i)
theorem mem_wo {l : List Nat} {i x : Nat} : x ∈ wo l i ↔ x ∈ l ∧ x ≠ i := by unfold wo; simp
theorem wo_not {l : List Nat} {i : Nat} (h : i ∉ l) : wo l i = l := by
  unfold wo
  rw [List.filter_eq_self]
  intro a ha
  simp only [bne_iff_ne]
  rintro rfl
  exact h ha
theorem wo_nodup {l : List Nat} {i : Nat} (h : l.Nodup) : (wo l i).Nodup := h.filter _
theorem wo_mid {p q : List Nat} {i : Nat} (h : (p ++ i :: q).Nodup) : wo (p ++ i :: q) i = p ++ q := by
  obtain ⟨h1, h2, h3⟩ := List.nodup_append.1 h
  have hp : i ∉ p := fun hi => h3 i hi i (by simp) rfl
  have hq : i ∉ q := (List.nodup_cons.1 h2).1
  have e1 := wo_not hp
  have e2 := wo_not hq
  unfold wo at *
  rw [List.filter_append, List.filter_cons, e1, e2]
  simp
/- The k-th number of a list; behind the last one, n. -/
def nth (l : List Nat) (n k : Nat) : Nat := (l[k]?).getD n
theorem nth_lt {l : List Nat} {n k : Nat} (h : k < l.length) : nth l n k = l[k] := by unfold nth; simp [h]
theorem nth_ge {l : List Nat} {n k : Nat} (h : l.length ≤ k) : nth l n k = n := by unfold nth; simp [h]
theorem nth_eq {l : List Nat} {n k : Nat} (h : k ≤ l.length) : (l ++ [n])[k]? = some (nth l n k) := by
  rcases Nat.lt_or_eq_of_le h with h1 | h1
  · rw [nth_lt h1, List.getElem?_append_left h1]; simp [h1]
  · rw [nth_ge (by omega), List.getElem?_append_right (by omega)]; simp [h1]
section
variable {n : Nat} {A B : Nat → Nat} {l : List Nat}
theorem ring_new (n : Nat) : Ring n id id [] := ⟨⟨rfl, rfl, trivial⟩, List.nodup_nil, fun x h => (by cases h), fun i _ _ => ⟨rfl, rfl⟩⟩
theorem ring_none (r : Ring n A B l) : n ∉ l := fun h => Nat.lt_irrefl _ (r.low n h)
theorem ring_first_is (r : Ring n A B l) : B n = nth l n 0 :=
  (chain_at (k := 0) r.chain (by simp) (by simpa using nth_eq (n := n) (Nat.zero_le l.length))).1
theorem ring_next (r : Ring n A B l) {k : Nat} (h : k < l.length) : B (nth l n k) = nth l n (k + 1) :=
  (chain_at (k := k + 1) r.chain (by simpa using nth_eq (n := n) (Nat.le_of_lt h)) (by simpa using nth_eq (n := n) (show k + 1 ≤ l.length from h))).1
theorem ring_last (r : Ring n A B l) : A n = (if h : l = [] then n else l.getLast h) := by
  split
  · rename_i h
    subst h
    exact r.chain.2.1
  · rename_i h
    have hl : 0 < l.length := by cases l with
      | nil => exact absurd rfl h
      | cons a t => simp
    refine (chain_at (k := l.length) (x := l.getLast h) (y := n) r.chain ?_ ?_).2
    · obtain ⟨m, hm⟩ : ∃ m, l.length = m + 1 := ⟨l.length - 1, by omega⟩
      rw [hm, List.getElem?_cons_succ, List.getElem?_append_left (by omega), List.getLast_eq_getElem]
      simp [hm]
    · rw [List.getElem?_cons_succ, List.getElem?_append_right (by omega)]
      simp
theorem ring_bound (r : Ring n A B l) {i : Nat} (h : i ≤ n) : A i ≤ n ∧ B i ≤ n := by
  have hs : ∀ {k x : Nat}, (n :: (l ++ [n]))[k]? = some x → x ≤ n := by
    intro k x hx
    have := List.mem_of_getElem? hx
    simp at this
    rcases this with h | h | h
    · omega
    · exact Nat.le_of_lt (r.low x h)
    · omega
  by_cases hn : i = n
  · subst hn
    constructor
    · rw [ring_last r]
      split
      · exact Nat.le_refl _
      · exact Nat.le_of_lt (r.low _ (List.getLast_mem _))
    · rw [ring_first_is r]
      unfold nth
      cases e : l[0]? with
      | none => exact Nat.le_refl _
      | some x => exact Nat.le_of_lt (r.low x (List.mem_of_getElem? e))
  · by_cases hi : i ∈ l
    · obtain ⟨k, hk, e⟩ := List.getElem_of_mem hi
      have h1 : (n :: (l ++ [n]))[k + 1]? = some i := by
        rw [List.getElem?_cons_succ, List.getElem?_append_left hk]; simp [hk, e]
      constructor
      · obtain ⟨y, hy⟩ : ∃ y, (n :: (l ++ [n]))[k]? = some y := ⟨_, List.getElem?_eq_getElem (by simp; omega)⟩
        rw [(chain_at r.chain hy h1).2]
        exact hs hy
      · obtain ⟨y, hy⟩ : ∃ y, (n :: (l ++ [n]))[k + 1 + 1]? = some y := ⟨_, List.getElem?_eq_getElem (by simp; omega)⟩
        rw [(chain_at r.chain h1 hy).1]
        exact hs hy
    · obtain ⟨h1, h2⟩ := r.out i (by omega) hi
      omega
/- Whether a number is there is told by who stands behind it. -/
theorem ring_there (r : Ring n A B l) {i : Nat} (h : i < n) : B i = i ↔ i ∉ l := by
  constructor
  · intro e hi
    obtain ⟨k, hk, e2⟩ := List.getElem_of_mem hi
    have h1 := ring_next r hk
    rw [nth_lt hk, e2, e] at h1
    by_cases h2 : k + 1 < l.length
    · rw [nth_lt h2] at h1
      have := (List.getElem_inj r.once).1 (e2.trans h1)
      omega
    · rw [nth_ge (by omega)] at h1
      omega
  · intro hi
    exact (r.out i h hi).2
theorem ends (l : List Nat) (n : Nat) : ∃ P a, n :: l = P ++ [a] := ⟨(n :: l).dropLast, (n :: l).getLast (by simp), (List.dropLast_concat_getLast (by simp)).symm⟩
theorem heads (l : List Nat) (n : Nat) : ∃ b Q, l ++ [n] = b :: Q := by
  cases l with
  | nil => exact ⟨n, [], rfl⟩
  | cons x t => exact ⟨x, t ++ [n], rfl⟩
theorem upd_same (f : Nat → Nat) {a : Nat} (h : f a = a) : upd f a a = f := by
  funext x
  unfold upd
  split
  · rename_i e; rw [e, h]
  · rfl
/- A number taken out. -/
theorem ring_out (r : Ring n A B l) {i : Nat} (h : i < n) : Ring n (upd (upd A (B i) (A i)) i i) (upd (upd B (A i) (B i)) i i) (wo l i) := by
  by_cases hi : i ∈ l
  · obtain ⟨p, q, rfl⟩ := List.append_of_mem hi
    obtain ⟨P, a, hP⟩ := ends p n
    obtain ⟨b, Q, hQ⟩ := heads q n
    have once := r.once
    obtain ⟨n1, n2, n3⟩ := List.nodup_append.1 once
    obtain ⟨n4, n5⟩ := List.nodup_cons.1 n2
    have hnn := ring_none r
    have hip : i ∉ p := fun hx => n3 i hx i (by simp) rfl
    have hnp : n ∉ p := fun hx => hnn (by simp [hx])
    have hnq : n ∉ q := fun hx => hnn (by simp [hx])
    have hin : i ≠ n := by omega
    have hpq : ∀ x, x ∈ p → x ∉ q := fun x h1 h2 => n3 x h1 x (by simp [h2]) rfl
    have e1 : n :: ((p ++ i :: q) ++ [n]) = P ++ a :: i :: b :: Q := by
      rw [List.append_assoc, List.cons_append, hQ, ← List.cons_append, hP]; simp
    have hc := r.chain
    rw [e1, chain_join] at hc
    obtain ⟨hc1, ha1, ha2, hb1, hb2, hc2⟩ := hc
    have e2 : n :: (wo (p ++ i :: q) i ++ [n]) = P ++ a :: b :: Q := by
      rw [wo_mid once, List.append_assoc, hQ, ← List.cons_append, hP]; simp
    have haM : a ∈ n :: p := by rw [hP]; simp
    have hbM : b ∈ q ++ [n] := by rw [hQ]; simp
    have ndP : (n :: p).Nodup := List.nodup_cons.2 ⟨hnp, n1⟩
    have ndQ : (q ++ [n]).Nodup := List.nodup_append.2 ⟨n5, by simp, fun x hx y hy => by simp at hy; subst hy; rintro rfl; exact hnq hx⟩
    rw [hP] at ndP
    rw [hQ] at ndQ
    have haP : a ∉ P := fun hx => (List.nodup_append.1 ndP).2.2 a hx a (by simp) rfl
    have hbQ : b ∉ Q := (List.nodup_cons.1 ndQ).1
    have hai : a ≠ i := by
      rintro rfl
      rcases List.mem_cons.1 haM with e | e
      · exact hin e
      · exact hip e
    have hbi : b ≠ i := by
      rintro rfl
      rcases List.mem_append.1 hbM with e | e
      · exact n4 e
      · exact hin (by simpa using e)
    rw [ha2, hb1]
    refine ⟨?_, wo_nodup once, fun x hx => r.low x (mem_wo.1 hx).1, fun x hx hn => ?_⟩
    · rw [e2, chain_join]
      refine ⟨chain_congr _ (fun x hx => ?_) (fun x hx => ?_) hc1, ?_, ?_, chain_congr _ (fun x hx => ?_) (fun x hx => ?_) hc2⟩
      · rw [List.dropLast_append_of_ne_nil (by simp)] at hx
        have hxP : x ∈ P := by simpa using hx
        clear hx
        have hxM : x ∈ n :: p := by rw [hP]; simp [hxP]
        have h1 : x ≠ i := by
          rintro rfl
          rcases List.mem_cons.1 hxM with e | e
          · exact hin e
          · exact hip e
        rw [upd_ne _ _ h1, upd_ne _ _ (by rintro rfl; exact haP hxP)]
      · rw [← hP] at hx
        have hx : x ∈ p := hx
        rw [upd_ne _ _ (by rintro rfl; exact hip hx), upd_ne]
        rintro rfl
        rcases List.mem_append.1 hbM with e | e
        · exact hpq x hx e
        · exact hnp (by simp at e; rw [← e]; exact hx)
      · rw [upd_ne _ _ hai, upd_at]
      · rw [upd_ne _ _ hbi, upd_at]
      · rw [← hQ, List.dropLast_concat] at hx
        rw [upd_ne _ _ (by rintro rfl; exact n4 hx), upd_ne]
        rintro rfl
        rcases List.mem_cons.1 haM with e | e
        · exact hnq (e ▸ hx)
        · exact hpq x e hx
      · have hx : x ∈ Q := hx
        have hxM : x ∈ q ++ [n] := by rw [hQ]; simp [hx]
        have h1 : x ≠ i := by
          rintro rfl
          rcases List.mem_append.1 hxM with e | e
          · exact n4 e
          · exact hin (by simpa using e)
        rw [upd_ne _ _ h1, upd_ne _ _ (by rintro rfl; exact hbQ hx)]
    · by_cases e : x = i
      · subst e
        exact ⟨upd_at _ _ _, upd_at _ _ _⟩
      · have hxl : x ∉ p ++ i :: q := fun hx => hn (mem_wo.2 ⟨hx, e⟩)
        obtain ⟨o1, o2⟩ := r.out x hx hxl
        have hxa : x ≠ a := by
          rintro rfl
          rcases List.mem_cons.1 haM with e | e
          · omega
          · exact hxl (by simp [e])
        have hxb : x ≠ b := by
          rintro rfl
          rcases List.mem_append.1 hbM with e | e
          · exact hxl (by simp [e])
          · simp at e; omega
        rw [upd_ne _ _ e, upd_ne _ _ e, upd_ne _ _ hxb, upd_ne _ _ hxa]
        exact ⟨o1, o2⟩
  · obtain ⟨h1, h2⟩ := r.out i h hi
    rw [h1, h2, upd_same A h1, upd_same A h1, upd_same B h2, upd_same B h2, wo_not hi]
    exact r
/- A number put first. -/
theorem ring_put (r : Ring n A B l) {i : Nat} (h : i < n) (hi : i ∉ l) : Ring n (upd (upd A i n) (B n) i) (upd (upd B i (B n)) n i) (i :: l) := by
  obtain ⟨s, Q, hQ⟩ := heads l n
  have hc := r.chain
  rw [hQ] at hc
  obtain ⟨hs, hs2, hc⟩ := hc
  have hin : i ≠ n := by omega
  have hnn := ring_none r
  have hsM : s ∈ l ++ [n] := by rw [hQ]; simp
  have hsi : s ≠ i := by
    rintro rfl
    rcases List.mem_append.1 hsM with e | e
    · exact hi e
    · exact hin (by simpa using e)
  have nd : (l ++ [n]).Nodup := List.nodup_append.2 ⟨r.once, by simp, fun x hx y hy => by simp at hy; subst hy; rintro rfl; exact hnn hx⟩
  rw [hQ] at nd
  have hsQ : s ∉ Q := (List.nodup_cons.1 nd).1
  rw [hs]
  refine ⟨?_, List.nodup_cons.2 ⟨hi, r.once⟩, fun x hx => ?_, fun x hx hn => ?_⟩
  · rw [List.cons_append, hQ]
    refine ⟨upd_at _ _ _, ?_, ?_, ?_, chain_congr _ (fun x hx => ?_) (fun x hx => ?_) hc⟩
    · rw [upd_ne _ _ (Ne.symm hsi), upd_at]
    · rw [upd_ne _ _ hin, upd_at]
    · rw [upd_at]
    · rw [← hQ, List.dropLast_concat] at hx
      rw [upd_ne _ _ (by rintro rfl; exact hnn hx), upd_ne _ _ (by rintro rfl; exact hi hx)]
    · have hx : x ∈ Q := hx
      have hxM : x ∈ l ++ [n] := by rw [hQ]; simp [hx]
      have h1 : x ≠ i := by
        rintro rfl
        rcases List.mem_append.1 hxM with e | e
        · exact hi e
        · exact hin (by simpa using e)
      rw [upd_ne _ _ (by rintro rfl; exact hsQ hx), upd_ne _ _ h1]
  · rcases List.mem_cons.1 hx with e | e
    · omega
    · exact r.low x e
  · have h1 : x ≠ i := by rintro rfl; exact hn (by simp)
    have h2 : x ∉ l := fun e => hn (by simp [e])
    have h3 : x ≠ n := by omega
    have h4 : x ≠ s := by
      rintro rfl
      rcases List.mem_append.1 hsM with e | e
      · exact h2 e
      · exact h3 (by simpa using e)
    rw [upd_ne _ _ h4, upd_ne _ _ h1, upd_ne _ _ h3, upd_ne _ _ h1]
    exact r.out x hx h2
end
end Go.Proofs.YthgbdaladngpdaaGreat.Lru

/- A list in memory: its object of one cell, its row of links; and the contracts of the functions that tell its end, whether it may have a number, that take one out and put one first. A list is for 1 to 1024 numbers. -/
namespace Go.Proofs.YthgbdaladngpdaaGreat.Lru
open Go.ChangeShapes Go.WideShapes Go.ChangeAt Go.RowKit
set_option linter.unusedVariables false
set_option maxRecDepth 100000
set_option linter.unusedSimpArgs false

theorem says_int {x y : Int} (e : x = y) : Ending.returned (.int .i64 x) = Ending.returned (.int .i64 y) := congrArg (fun z => Ending.returned (.int .i64 z)) e
theorem says_bool {x y : Bool} (e : x = y) : Ending.returned (.bool x) = Ending.returned (.bool y) := congrArg (fun z => Ending.returned (.bool z)) e
theorem kept_drewN {W w : World} (h : Kept W w) (n : Nat) : Kept W (w.drewN n) := h
theorem turn_drewN {c : Nat} {W w : World} (h : Turn c W w) (n : Nat) : Turn c W (w.drewN n) := h
theorem at_cells1 {w : World} {X T : Nat} {a0 : Value} (h : At w X #[a0] T) : w.cell? ⟨X, 0, none⟩ = some a0 ∧ ∀ j, w.frozen? ⟨X, j, none⟩ = false := ⟨at_cell h 0, at_frozen h⟩
theorem at_cells2 {w : World} {X T : Nat} {a0 a1 : Value} (h : At w X #[a0, a1] T) : w.cell? ⟨X, 0, none⟩ = some a0 ∧ w.cell? ⟨X, 1, none⟩ = some a1 ∧ ∀ j, w.frozen? ⟨X, j, none⟩ = false := ⟨at_cell h 0, at_cell h 1, at_frozen h⟩

def RowL (w : World) (R n : Nat) (A B : Nat → Nat) : Prop :=
  ∃ cs, At w R cs 135 ∧ cs.size = (n + 1) * 2 ∧ ∀ i, i ≤ n → cs[i * 2]? = some (.int .i64 (A i : Int)) ∧ cs[i * 2 + 1]? = some (.int .i64 (B i : Int))
section
variable {w w' : World} {R n : Nat} {A B : Nat → Nat}
theorem row_lt (h : RowL w R n A B) : R < w.heap.size := by obtain ⟨cs, h, _⟩ := h; exact at_lt h
theorem row_block (h : RowL w R n A B) (e : w'.heap[R]? = w.heap[R]?) : RowL w' R n A B := by
  obtain ⟨cs, h, g⟩ := h
  exact ⟨cs, e.trans h, g⟩
theorem row_kept (h : RowL w R n A B) (k : Kept w w') : RowL w' R n A B := row_block h (kept_block k (row_lt h))
theorem row_cells (h : RowL w R n A B) {i : Nat} (hi : i ≤ n) : w.cell? ⟨R, i * 2, none⟩ = some (.int .i64 (A i : Int)) ∧ w.cell? ⟨R, i * 2 + 1, none⟩ = some (.int .i64 (B i : Int)) ∧ ∀ j, w.frozen? ⟨R, j, none⟩ = false := by
  obtain ⟨cs, h, _, g⟩ := h
  obtain ⟨g0, g1⟩ := g i hi
  exact ⟨(at_cell h _).trans g0, (at_cell h _).trans g1, at_frozen h⟩
/- One side of a link stored, a whole link stored. -/
theorem row_setA (h : RowL w R n A B) {a : Nat} (ha : a ≤ n) (v : Nat) : RowL (w.setCell ⟨R, a * 2, none⟩ (.int .i64 (v : Int))) R n (upd A a v) B := by
  obtain ⟨cs, h, hs, g⟩ := h
  refine ⟨_, at_set h _ _, by simpa using hs, fun i hi => ?_⟩
  obtain ⟨g0, g1⟩ := g i hi
  by_cases e : i = a
  · subst e
    rw [upd_at]
    refine ⟨?_, ?_⟩
    · rw [Array.getElem?_setIfInBounds, if_pos rfl, if_pos (by omega)]
    · rw [Array.getElem?_setIfInBounds, if_neg (by omega)]; exact g1
  · rw [upd_ne _ _ e]
    refine ⟨?_, ?_⟩ <;> (rw [Array.getElem?_setIfInBounds, if_neg (by omega)]; assumption)
theorem row_setB (h : RowL w R n A B) {a : Nat} (ha : a ≤ n) (v : Nat) : RowL (w.setCell ⟨R, a * 2 + 1, none⟩ (.int .i64 (v : Int))) R n A (upd B a v) := by
  obtain ⟨cs, h, hs, g⟩ := h
  refine ⟨_, at_set h _ _, by simpa using hs, fun i hi => ?_⟩
  obtain ⟨g0, g1⟩ := g i hi
  by_cases e : i = a
  · subst e
    rw [upd_at]
    refine ⟨?_, ?_⟩
    · rw [Array.getElem?_setIfInBounds, if_neg (by omega)]; exact g0
    · rw [Array.getElem?_setIfInBounds, if_pos rfl, if_pos (by omega)]
  · rw [upd_ne _ _ e]
    refine ⟨?_, ?_⟩ <;> (rw [Array.getElem?_setIfInBounds, if_neg (by omega)]; assumption)
end
/- The program's list. -/
def Lst (w : World) (X R n : Nat) (A B : Nat → Nat) : Prop := At w X #[.slice (some ⟨R, 0, none⟩) (n + 1) (n + 1)] 137 ∧ RowL w R n A B
section
variable {w w' : World} {X R n : Nat} {A B : Nat → Nat}
theorem lst_kept (h : Lst w X R n A B) (k : Kept w w') : Lst w' X R n A B := ⟨at_kept h.1 k, row_kept h.2 k⟩
theorem lst_drew (h : Lst w X R n A B) : Lst w.drew X R n A B := h
theorem lst_ne (h : Lst w X R n A B) : X ≠ R := by
  obtain ⟨cs, hr, _⟩ := h.2
  exact at_ne h.1 hr (by decide)
theorem lst_setA (h : Lst w X R n A B) {a : Nat} (ha : a ≤ n) (v : Nat) : Lst (w.setCell ⟨R, a * 2, none⟩ (.int .i64 (v : Int))) X R n (upd A a v) B := ⟨at_other h.1 (lst_ne h) _ _, row_setA h.2 ha v⟩
theorem lst_setB (h : Lst w X R n A B) {a : Nat} (ha : a ≤ n) (v : Nat) : Lst (w.setCell ⟨R, a * 2 + 1, none⟩ (.int .i64 (v : Int))) X R n A (upd B a v) := ⟨at_other h.1 (lst_ne h) _ _, row_setB h.2 ha v⟩
theorem lst_cells (h : Lst w X R n A B) {i : Nat} (hi : i ≤ n) : w.cell? ⟨X, 0, none⟩ = some (.slice (some ⟨R, 0, none⟩) (n + 1) (n + 1)) ∧ w.cell? ⟨R, i * 2, none⟩ = some (.int .i64 (A i : Int)) ∧ w.cell? ⟨R, i * 2 + 1, none⟩ = some (.int .i64 (B i : Int)) ∧ (∀ j, w.frozen? ⟨X, j, none⟩ = false) ∧ ∀ j, w.frozen? ⟨R, j, none⟩ = false := by
  obtain ⟨c0, cf⟩ := at_cells1 h.1
  obtain ⟨r0, r1, rf⟩ := row_cells h.2 hi
  exact ⟨c0, r0, r1, cf, rf⟩
end
set_option maxHeartbeats 800000 in
theorem end_any {X R n : Nat} {A B : Nat → Nat} (hn : n ≤ 1024) (w : World) (h : Lst w X R n A B) :
    Calls Tryz.prog 105 #[.pointer (some ⟨X, 0, none⟩)] w fun e w' => e = .returned (.int .i64 (n : Int)) ∧ w' = w := by
  obtain ⟨c0, cf⟩ := at_cells1 h.1
  clear h
  go_enter Tryz.func105, Tryz.ntmps105
  go_wp2_with fail
  go_ret
  exact ⟨says_int (by omega), rfl⟩
theorem may_nil (i : Int) (w : World) : Calls Tryz.prog 82 #[.pointer none, .int .i64 i] w fun e w' => e = .returned (.bool false) ∧ w' = w := by
  go_enter Tryz.func82, Tryz.ntmps82
  go_wp2_with fail
  go_ret
  exact ⟨rfl, rfl⟩
set_option maxHeartbeats 800000 in
theorem may_any {X R n : Nat} {A B : Nat → Nat} (hn : n ≤ 1024) (i : Int) (w : World) (h : Lst w X R n A B) :
    Calls Tryz.prog 82 #[.pointer (some ⟨X, 0, none⟩), .int .i64 i] w fun e w' => e = .returned (.bool (decide (0 ≤ i ∧ i < (n : Int)))) ∧ w' = w := by
  have hE := end_any hn w h
  clear h
  by_cases h0 : 0 ≤ i
  · have e : decide (i < (n : Int)) = decide (0 ≤ i ∧ i < (n : Int)) := by simp [h0]
    have HE := hid e
    clear e
    go_enter Tryz.func82, Tryz.ntmps82
    go_wp2_with fail
    refine hE.mono ?_
    rintro e w1 ⟨rfl, rfl⟩
    go_wp2_with fail
    go_ret
    exact ⟨says_bool HE.out, rfl⟩
  · have e : false = decide (0 ≤ i ∧ i < (n : Int)) := by simp [h0]
    have HE := hid e
    have h1 : decide (0 ≤ i) = false := by simpa using h0
    clear e h0 hE
    go_enter Tryz.func82, Tryz.ntmps82
    go_wp2_with fail
    go_ret
    exact ⟨says_bool HE.out, rfl⟩
set_option maxHeartbeats 1600000 in
theorem out_any {X R n : Nat} {A B : Nat → Nat} (hn : n ≤ 1024) (i : Nat) (hi : i ≤ n) (ha : A i ≤ n) (hb : B i ≤ n) (w : World) (h : Lst w X R n A B) :
    Calls Tryz.prog 83 #[.pointer (some ⟨X, 0, none⟩), .int .i64 (i : Int)] w fun e w' => e = .returned (.tuple #[]) ∧ Turn R w w' ∧ Lst w' X R n (upd (upd A (B i) (A i)) i i) (upd (upd B (A i) (B i)) i i) := by
  obtain ⟨c0, r0, r1, cf, rf⟩ := lst_cells h hi
  have HL := hid h
  clear h
  generalize A i = a at *
  generalize B i = b at *
  go_enter Tryz.func83, Tryz.ntmps83
  go_wp2_with fail
  go_quiet (fail)
  replace HL := hid (lst_kept HL.out (kept_drewN (kept_refl w) nq))
  have HT := hid (turn_drewN (Turn.refl R w) nq)
  clear c0 r0 r1 cf rf
  generalize w.drewN nq = w1 at *
  obtain ⟨w2, hw2⟩ : ∃ w2, w1.setCell ⟨R, a * 2 + 1, none⟩ (.int .i64 (b : Int)) = w2 := ⟨_, rfl⟩
  obtain ⟨w3, hw3⟩ : ∃ w3, w2.setCell ⟨R, b * 2, none⟩ (.int .i64 (a : Int)) = w3 := ⟨_, rfl⟩
  obtain ⟨w4, hw4⟩ : ∃ w4, w3.setCell ⟨R, i * 2, none⟩ (.int .i64 (i : Int)) = w4 := ⟨_, rfl⟩
  obtain ⟨w5, hw5⟩ : ∃ w5, w4.setCell ⟨R, i * 2 + 1, none⟩ (.int .i64 (i : Int)) = w5 := ⟨_, rfl⟩
  have L2 := lst_setB HL.out ha b
  rw [hw2] at L2
  have L3 := lst_setA L2 hb a
  rw [hw3] at L3
  have L4 := lst_setA L3 hi i
  rw [hw4] at L4
  have L5 := hid (lst_setB L4 hi i)
  rw [hw5] at L5
  have T2 := turn_set HT.out (a * 2 + 1) (.int .i64 (b : Int))
  rw [hw2] at T2
  have T3 := turn_set T2 (b * 2) (.int .i64 (a : Int))
  rw [hw3] at T3
  have T4 := turn_set T3 (i * 2) (.int .i64 (i : Int))
  rw [hw4] at T4
  have T5 := hid (turn_set T4 (i * 2 + 1) (.int .i64 (i : Int)))
  rw [hw5] at T5
  obtain ⟨x0, x1, x2, x3, x4⟩ := lst_cells HL.out ha
  obtain ⟨y0, y1, y2, y3, y4⟩ := lst_cells L2 hb
  obtain ⟨z0, z1, z2, z3, z4⟩ := lst_cells L3 hi
  obtain ⟨v0, v1, v2, v3, v4⟩ := lst_cells L4 hi
  clear L2 L3 L4 T2 T3 T4 HL HT
  go_wp2_with fail
  exact bodyPost_end (v := .tuple #[]) (by kernel_rfl) rfl ⟨rfl, T5.out, L5.out⟩
set_option maxHeartbeats 1600000 in
theorem put_any {X R n : Nat} {A B : Nat → Nat} (hn : n ≤ 1024) (i : Nat) (hi : i ≤ n) (hb : B n ≤ n) (w : World) (h : Lst w X R n A B) :
    Calls Tryz.prog 84 #[.pointer (some ⟨X, 0, none⟩), .int .i64 (i : Int)] w fun e w' => e = .returned (.tuple #[]) ∧ Turn R w w' ∧ Lst w' X R n (upd (upd A i n) (B n) i) (upd (upd B i (B n)) n i) := by
  obtain ⟨c0, r0, r1, cf, rf⟩ := lst_cells h (Nat.le_refl n)
  have hE := end_any hn w h
  have HL := hid h
  have HT := hid (Turn.refl R w)
  clear h
  generalize B n = b at *
  go_enter Tryz.func84, Tryz.ntmps84
  go_wp2_with fail
  refine hE.mono ?_
  rintro e w1 ⟨rfl, rfl⟩
  clear hE
  obtain ⟨w2, hw2⟩ : ∃ w2, w1.setCell ⟨R, i * 2, none⟩ (.int .i64 (n : Int)) = w2 := ⟨_, rfl⟩
  obtain ⟨w3, hw3⟩ : ∃ w3, w2.setCell ⟨R, i * 2 + 1, none⟩ (.int .i64 (b : Int)) = w3 := ⟨_, rfl⟩
  obtain ⟨w4, hw4⟩ : ∃ w4, w3.setCell ⟨R, n * 2 + 1, none⟩ (.int .i64 (i : Int)) = w4 := ⟨_, rfl⟩
  obtain ⟨w5, hw5⟩ : ∃ w5, w4.setCell ⟨R, b * 2, none⟩ (.int .i64 (i : Int)) = w5 := ⟨_, rfl⟩
  have L2 := lst_setA HL.out hi n
  rw [hw2] at L2
  have L3 := lst_setB L2 hi b
  rw [hw3] at L3
  have L4 := lst_setB L3 (Nat.le_refl n) i
  rw [hw4] at L4
  have L5 := hid (lst_setA L4 hb i)
  rw [hw5] at L5
  have T2 := turn_set HT.out (i * 2) (.int .i64 (n : Int))
  rw [hw2] at T2
  have T3 := turn_set T2 (i * 2 + 1) (.int .i64 (b : Int))
  rw [hw3] at T3
  have T4 := turn_set T3 (n * 2 + 1) (.int .i64 (i : Int))
  rw [hw4] at T4
  have T5 := hid (turn_set T4 (b * 2) (.int .i64 (i : Int)))
  rw [hw5] at T5
  obtain ⟨x0, x1, x2, x3, x4⟩ := lst_cells HL.out hi
  obtain ⟨y0, y1, y2, y3, y4⟩ := lst_cells L2 hi
  obtain ⟨z0, z1, z2, z3, z4⟩ := lst_cells L3 (Nat.le_refl n)
  obtain ⟨v0, v1, v2, v3, v4⟩ := lst_cells L4 hb
  clear L2 L3 L4 T2 T3 T4 HL HT
  go_wp2_with fail
  exact bodyPost_end (v := .tuple #[]) (by kernel_rfl) rfl ⟨rfl, T5.out, L5.out⟩
end Go.Proofs.YthgbdaladngpdaaGreat.Lru

/- A list in memory that has just these numbers, in this order (Good); the contracts of Use, Drop, Oldest and New. -/
namespace Go.Proofs.YthgbdaladngpdaaGreat.Lru
open Go.ChangeShapes Go.WideShapes Go.ChangeAt Go.RowKit
set_option linter.unusedVariables false
set_option maxRecDepth 100000
set_option linter.unusedSimpArgs false

/- A list in memory. -/
structure Good (w : World) (X R n : Nat) (l : List Nat) : Prop where
  some : 1 ≤ n
  low : n ≤ 1024
  ring : ∃ A B, Lst w X R n A B ∧ Ring n A B l
section
variable {w w' : World} {X R n : Nat} {l : List Nat}
theorem good_kept (g : Good w X R n l) (k : Kept w w') : Good w' X R n l := by
  obtain ⟨h1, h2, A, B, h, r⟩ := g
  exact ⟨h1, h2, A, B, lst_kept h k, r⟩
theorem good_alloc (g : Good w X R n l) (o : Obj) : Good (w.alloc o) X R n l := good_kept g (kept_alloc (kept_refl w) o)
theorem good_once (g : Good w X R n l) : l.Nodup := by obtain ⟨_, _, A, B, _, r⟩ := g; exact r.once
theorem good_lt (g : Good w X R n l) : ∀ x, x ∈ l → x < n := by obtain ⟨_, _, A, B, _, r⟩ := g; exact r.low
theorem once_len : ∀ (n : Nat) (l : List Nat), l.Nodup → (∀ x, x ∈ l → x < n) → l.length ≤ n
  | 0, [], _, _ => Nat.le_refl _
  | 0, x :: l, _, h => absurd (h x (by simp)) (by omega)
  | n + 1, l, hd, h => by
    have h1 := once_len n (wo l n) (wo_nodup hd) (fun x hx => by have := h x (mem_wo.1 hx).1; have := (mem_wo.1 hx).2; omega)
    by_cases hn : n ∈ l
    · obtain ⟨p, q, rfl⟩ := List.append_of_mem hn
      rw [wo_mid hd] at h1
      simp at h1 ⊢
      omega
    · rw [wo_not hn] at h1
      omega
theorem good_len (g : Good w X R n l) : l.length ≤ n := once_len n l (good_once g) (good_lt g)
end
theorem use_nil (i : Int) (w : World) : Calls Tryz.prog 49 #[.pointer none, .int .i64 i] w fun e w' => e = .returned (.int .i64 1) ∧ w' = w := by
  go_enter Tryz.func49, Tryz.ntmps49
  go_wp2_with (go_at_call 82; refine (may_nil i _).mono ?_; rintro e w1 ⟨rfl, rfl⟩)
  go_ret
  exact ⟨rfl, rfl⟩
theorem drop_nil (i : Int) (w : World) : Calls Tryz.prog 75 #[.pointer none, .int .i64 i] w fun e w' => e = .returned (.bool false) ∧ w' = w := by
  go_enter Tryz.func75, Tryz.ntmps75
  go_wp2_with (go_at_call 82; refine (may_nil i _).mono ?_; rintro e w1 ⟨rfl, rfl⟩)
  go_ret
  exact ⟨rfl, rfl⟩
theorem oldest_nil (w : World) : Calls Tryz.prog 103 #[.pointer none] w fun e w' => e = .returned (.tuple #[.int .i64 0, .bool false]) ∧ w' = w := by
  go_enter Tryz.func103, Tryz.ntmps103
  go_wp2_with fail
  go_ret2
  exact ⟨rfl, rfl⟩

/- A number that it may not have. -/
set_option maxHeartbeats 800000 in
theorem use_bad {X R n : Nat} {l : List Nat} (i : Int) (hi : ¬ (0 ≤ i ∧ i < (n : Int))) (w : World) (g : Good w X R n l) :
    Calls Tryz.prog 49 #[.pointer (some ⟨X, 0, none⟩), .int .i64 i] w fun e w' => e = .returned (.int .i64 1) ∧ w' = w := by
  obtain ⟨h1, h2, A, B, h, r⟩ := g
  have hM := may_any h2 i w h
  rw [decide_eq_false hi] at hM
  clear h r hi
  go_enter Tryz.func49, Tryz.ntmps49
  go_wp2_with fail
  refine hM.mono ?_
  rintro e w1 ⟨rfl, rfl⟩
  go_wp2_with fail
  go_ret
  exact ⟨rfl, rfl⟩
set_option maxHeartbeats 800000 in
theorem drop_bad {X R n : Nat} {l : List Nat} (i : Int) (hi : ¬ (0 ≤ i ∧ i < (n : Int))) (w : World) (g : Good w X R n l) :
    Calls Tryz.prog 75 #[.pointer (some ⟨X, 0, none⟩), .int .i64 i] w fun e w' => e = .returned (.bool false) ∧ w' = w := by
  obtain ⟨h1, h2, A, B, h, r⟩ := g
  have hM := may_any h2 i w h
  rw [decide_eq_false hi] at hM
  clear h r hi
  go_enter Tryz.func75, Tryz.ntmps75
  go_wp2_with fail
  refine hM.mono ?_
  rintro e w1 ⟨rfl, rfl⟩
  go_wp2_with fail
  go_ret
  exact ⟨rfl, rfl⟩
set_option maxHeartbeats 800000 in
theorem use_any {X R n : Nat} {l : List Nat} (i : Nat) (hi : i < n) (w : World) (g : Good w X R n l) :
    Calls Tryz.prog 49 #[.pointer (some ⟨X, 0, none⟩), .int .i64 (i : Int)] w fun e w' => e = .returned (.int .i64 0) ∧ Turn R w w' ∧ Good w' X R n (i :: wo l i) := by
  obtain ⟨h1, h2, A, B, h, r⟩ := g
  have hM := may_any h2 (i : Int) w h
  rw [decide_eq_true (by omega)] at hM
  have hb := ring_bound r (Nat.le_of_lt hi)
  have hO := out_any h2 i (Nat.le_of_lt hi) hb.1 hb.2 w h
  have r2 := ring_out r hi
  have hb2 := ring_bound r2 (Nat.le_refl n)
  have HR := hid (ring_put r2 hi (fun hx => (mem_wo.1 hx).2 rfl))
  have HP := hid (fun w1 (h : Lst w1 X R n (upd (upd A (B i) (A i)) i i) (upd (upd B (A i) (B i)) i i)) => put_any h2 i (Nat.le_of_lt hi) hb2.2 w1 h)
  clear h r r2 hb hb2
  generalize upd (upd A (B i) (A i)) i i = A2 at *
  generalize upd (upd B (A i) (B i)) i i = B2 at *
  go_enter Tryz.func49, Tryz.ntmps49
  go_wp2_with fail
  refine hM.mono ?_
  rintro e w1 ⟨rfl, rfl⟩
  go_wp2_with fail
  refine hO.mono ?_
  rintro e w2 ⟨rfl, t2, l2⟩
  go_wp2_with fail
  refine (HP.out w2 l2).mono ?_
  rintro e w3 ⟨rfl, t3, l3⟩
  go_wp2_with fail
  go_ret
  exact ⟨rfl, t2.trans t3, h1, h2, _, _, l3, HR.out⟩
set_option maxHeartbeats 800000 in
theorem drop_any {X R n : Nat} {l : List Nat} (i : Nat) (hi : i < n) (w : World) (g : Good w X R n l) :
    Calls Tryz.prog 75 #[.pointer (some ⟨X, 0, none⟩), .int .i64 (i : Int)] w fun e w' => e = .returned (.bool (decide (i ∈ l))) ∧ Turn R w w' ∧ Good w' X R n (wo l i) := by
  obtain ⟨h1, h2, A, B, h, r⟩ := g
  have hM := may_any h2 (i : Int) w h
  rw [decide_eq_true (by omega)] at hM
  obtain ⟨c0, r0, r1, cf, rf⟩ := lst_cells h (Nat.le_of_lt hi)
  have hin : i ≤ n := Nat.le_of_lt hi
  have ht := ring_there r hi
  by_cases hl : i ∈ l
  · have hb := ring_bound r (Nat.le_of_lt hi)
    have hO := out_any h2 i (Nat.le_of_lt hi) hb.1 hb.2 w h
    have HR := hid (ring_out r hi)
    have hne : ((B i : Int) == (i : Int)) = false := by
      have : B i ≠ i := fun e => ht.1 e hl
      simp; omega
    rw [decide_eq_true hl]
    clear h r hb ht hl
    generalize upd (upd A (B i) (A i)) i i = A2 at *
    generalize upd (upd B (A i) (B i)) i i = B2 at *
    generalize B i = b at *
    go_enter Tryz.func75, Tryz.ntmps75
    go_wp2_with fail
    refine hM.mono ?_
    rintro e w1 ⟨rfl, rfl⟩
    go_wp2_with fail
    refine hO.mono ?_
    rintro e w2 ⟨rfl, t2, l2⟩
    go_wp2_with fail
    go_ret
    exact ⟨rfl, t2, h1, h2, _, _, l2, HR.out⟩
  · have hne : ((B i : Int) == (i : Int)) = true := by
      have : B i = i := ht.2 hl
      simp; omega
    rw [decide_eq_false hl, wo_not hl]
    have HG := hid (Good.mk h1 h2 ⟨A, B, h, r⟩)
    clear h r ht hl
    generalize B i = b at *
    go_enter Tryz.func75, Tryz.ntmps75
    go_wp2_with fail
    refine hM.mono ?_
    rintro e w1 ⟨rfl, rfl⟩
    go_wp2_with fail
    go_ret
    exact ⟨rfl, Turn.refl R _, HG.out⟩
/- Any number. -/
theorem use_int {X R n : Nat} {l : List Nat} (i : Int) (w : World) (g : Good w X R n l) :
    Calls Tryz.prog 49 #[.pointer (some ⟨X, 0, none⟩), .int .i64 i] w fun e w' => ∃ l', e = .returned (.int .i64 (if 0 ≤ i ∧ i < (n : Int) then 0 else 1)) ∧ Turn R w w' ∧ Good w' X R n l' ∧ l' = if 0 ≤ i ∧ i < (n : Int) then i.toNat :: wo l i.toNat else l := by
  by_cases h : 0 ≤ i ∧ i < (n : Int)
  · obtain ⟨k, rfl⟩ := Int.eq_ofNat_of_zero_le h.1
    refine (use_any k (by omega) w g).mono ?_
    rintro e w' ⟨rfl, t, g'⟩
    refine ⟨_, by rw [if_pos h], t, g', ?_⟩
    rw [if_pos h]; simp
  · refine (use_bad i h w g).mono ?_
    rintro e w' ⟨rfl, rfl⟩
    exact ⟨l, by rw [if_neg h], Turn.refl R _, g, by rw [if_neg h]⟩
theorem drop_int {X R n : Nat} {l : List Nat} (i : Int) (w : World) (g : Good w X R n l) :
    Calls Tryz.prog 75 #[.pointer (some ⟨X, 0, none⟩), .int .i64 i] w fun e w' => e = .returned (.bool (decide (0 ≤ i ∧ i.toNat ∈ l))) ∧ Turn R w w' ∧ Good w' X R n (if 0 ≤ i then wo l i.toNat else l) := by
  by_cases h : 0 ≤ i ∧ i < (n : Int)
  · obtain ⟨k, rfl⟩ := Int.eq_ofNat_of_zero_le h.1
    refine (drop_any k (by omega) w g).mono ?_
    rintro e w' ⟨rfl, t, g'⟩
    refine ⟨says_bool (by simp), t, ?_⟩
    rw [if_pos h.1]; simpa using g'
  · refine (drop_bad i h w g).mono ?_
    rintro e w' ⟨rfl, rfl⟩
    have hm : 0 ≤ i → i.toNat ∉ l := fun h0 hx => by have := good_lt g _ hx; omega
    refine ⟨says_bool (by symm; rw [decide_eq_false]; exact fun hx => hm hx.1 hx.2), Turn.refl R _, ?_⟩
    split
    · rename_i h0; rw [wo_not (hm h0)]; exact g
    · exact g
def oldI (l : List Nat) : Int := if h : l = [] then 0 else (l.getLast h : Int)
set_option maxHeartbeats 1600000 in
theorem oldest_any {X R n : Nat} {l : List Nat} (w : World) (g : Good w X R n l) :
    Calls Tryz.prog 103 #[.pointer (some ⟨X, 0, none⟩)] w fun e w' => e = .returned (.tuple #[.int .i64 (oldI l), .bool (!l.isEmpty)]) ∧ Kept w w' := by
  have HG := hid g
  obtain ⟨h1, h2, A, B, h, r⟩ := g
  have hE := fun w1 (h : Lst w1 X R n A B) => end_any h2 w1 h
  have HL := hid h
  have hla := ring_last r
  have hA := (ring_bound r (Nat.le_refl n)).1
  obtain ⟨c0, r0, r1, cf, rf⟩ := lst_cells h (Nat.le_refl n)
  by_cases hl : l = []
  · have ha : ((A n : Int) == (n : Int)) = true := by rw [dif_pos hl] at hla; simp [hla]
    have HO : Hid (oldI l = 0 ∧ (!l.isEmpty) = false) := hid (by subst hl; exact ⟨rfl, rfl⟩)
    clear h r hla hl
    generalize A n = a at *
    go_enter Tryz.func103, Tryz.ntmps103
    go_wp2_with fail
    go_quiet ((go_at_call 105; exact Calls.quiet_of_same (hE _ HL.out)))
    replace HL := hid (lst_kept HL.out (kept_drewN (kept_refl w) nq))
    go_wp2_with fail
    refine (hE _ HL.out).mono ?_
    rintro e w2 ⟨rfl, rfl⟩
    go_wp2_with fail
    go_ret2
    rw [HO.out.1, HO.out.2]
    exact ⟨rfl, kept_drewN (kept_refl w) nq⟩
  · have ha : ((A n : Int) == (n : Int)) = false := by
      rw [dif_neg hl] at hla
      have := r.low _ (List.getLast_mem hl)
      simp; omega
    have HO : Hid (oldI l = (A n : Int) ∧ (!l.isEmpty) = true) := hid (by
      rw [hla, dif_neg hl]; unfold oldI; rw [dif_neg hl]
      refine ⟨rfl, ?_⟩
      cases l with
      | nil => exact absurd rfl hl
      | cons x t => rfl)
    clear h r hla hl
    generalize A n = a at *
    go_enter Tryz.func103, Tryz.ntmps103
    go_wp2_with fail
    go_quiet ((go_at_call 105; exact Calls.quiet_of_same (hE _ HL.out)))
    replace HL := hid (lst_kept HL.out (kept_drewN (kept_refl w) nq))
    go_wp2_with fail
    refine (hE _ HL.out).mono ?_
    rintro e w2 ⟨rfl, rfl⟩
    go_wp2_with fail
    go_ret2
    rw [HO.out.1, HO.out.2]
    exact ⟨rfl, kept_drewN (kept_refl w) nq⟩
end Go.Proofs.YthgbdaladngpdaaGreat.Lru

/- The contract of New: a list for so many numbers, without any; or none, where there may be none. -/
namespace Go.Proofs.YthgbdaladngpdaaGreat.Lru
open Go.ChangeShapes Go.WideShapes Go.ChangeAt Go.RowKit
set_option linter.unusedVariables false
set_option maxRecDepth 100000
set_option linter.unusedSimpArgs false

def fz (k i : Nat) : Nat := if i < k then i else 0
theorem fz_next (k : Nat) : upd (fz k) k k = fz (k + 1) := by
  funext i
  unfold upd fz
  split
  · rename_i h; subst h; rw [if_pos (by omega)]
  · by_cases h : i < k
    · rw [if_pos h, if_pos (by omega)]
    · rw [if_neg h, if_neg (by omega)]
theorem row_ext {w : World} {R n : Nat} {A B A' B' : Nat → Nat} (h : RowL w R n A B) (hA : ∀ i, i ≤ n → A i = A' i) (hB : ∀ i, i ≤ n → B i = B' i) : RowL w R n A' B' := by
  obtain ⟨cs, h, hs, g⟩ := h
  refine ⟨cs, h, hs, fun i hi => ?_⟩
  rw [← hA i hi, ← hB i hi]
  exact g i hi
theorem info48 : (Tryz.prog.info? 135).map (fun i => (i.zero, i.size, i.bytes)) = some (some (.agg #[.int .i64 0, .int .i64 0]), 2, 16) := by kernel_rfl
theorem make_links (w : World) (n : Nat) (hn : n ≤ 4096) :
    (Instr.makeSlice 133 (.int .i64 (n : Int)) (.int .i64 (n : Int))).run Tryz.prog w = .ok (.slice (some ⟨w.heap.size, 0, none⟩) n n) (w.alloc (.cells (madeCells #[.int .i64 0, .int .i64 0] (n * 2)) 135)) := by
  obtain ⟨i0, hi, hz0, hz1, hz2⟩ := info_parts info48
  have := run_make (P := Tryz.prog) w 133 135 i0 _ Tryz.underlying133 hi hz0 .i64 .i64 (n : Int) (n : Int) (by omega) (by omega) (by rw [hz2]; omega) (by omega)
  rw [this, hz1]
  rfl
theorem row_made (w : World) (n : Nat) : RowL (w.alloc (.cells (madeCells #[.int .i64 0, .int .i64 0] ((n + 1) * 2)) 135)) w.heap.size n (fz 0) (fz 0) := by
  refine ⟨_, at_new w _ 135, by unfold madeCells; simp, fun i hi => ?_⟩
  have e : ((fz 0 i : Nat) : Int) = 0 := rfl
  rw [e]
  unfold madeCells
  constructor
  · rw [Array.getElem?_map, Array.getElem?_range, if_pos (by omega)]
    have e : (i * 2) % (#[Value.int .i64 0, .int .i64 0] : Array Value).size = 0 := by show (i * 2) % 2 = 0; omega
    simp only [Option.map_some, e]
    rfl
  · rw [Array.getElem?_map, Array.getElem?_range, if_pos (by omega)]
    have e : (i * 2 + 1) % (#[Value.int .i64 0, .int .i64 0] : Array Value).size = 1 := by show (i * 2 + 1) % 2 = 1; omega
    simp only [Option.map_some, e]
    rfl
def mayN (n : Int) : Prop := 1 ≤ n ∧ n ≤ 1024
set_option maxHeartbeats 800000 in
theorem new_bad (n : Int) (h : ¬ mayN n) (w : World) : Calls Tryz.prog 62 #[.int .i64 n] w fun e w' => e = .returned (.tuple #[.pointer none, .int .i64 1]) ∧ w' = w := by
  by_cases h1 : n < 1
  · clear h
    go_enter Tryz.func62, Tryz.ntmps62
    go_wp2_with fail
    go_ret2
    exact ⟨rfl, rfl⟩
  · have h2 : 1024 < n := by unfold mayN at h; omega
    have h1' : decide (n < 1) = false := by simpa using h1
    clear h
    go_enter Tryz.func62, Tryz.ntmps62
    go_wp2_with fail
    go_ret2
    exact ⟨rfl, rfl⟩
/- What New answers and leaves. -/
def NewC (n : Nat) (w : World) (e : Ending) (w' : World) : Prop := ∃ X R, e = .returned (.tuple #[.pointer (some ⟨X, 0, none⟩), .int .i64 0]) ∧ w.heap.size ≤ X ∧ w.heap.size ≤ R ∧ Kept w w' ∧ Good w' X R n []
set_option maxHeartbeats 1600000 in
theorem new_any (n : Nat) (h1 : 1 ≤ n) (h2 : n ≤ 1024) (w : World) : Calls Tryz.prog 62 #[.int .i64 (n : Int)] w (NewC n w) := by
  have d1 : decide ((n : Int) < 1) = false := by simp; omega
  have d2 : decide ((1024 : Int) < (n : Int)) = false := by simp; omega
  have hmk := make_links w (n + 1) (by omega)
  have HR := hid (row_made w n)
  have HK := hid (kept_alloc (kept_refl w) (.cells (madeCells #[.int .i64 0, .int .i64 0] ((n + 1) * 2)) 135))
  have HB := hid (Nat.le_refl w.heap.size)
  have hc : ((n + 1 : Nat) : Int) = (n : Int) + 1 := by omega
  rw [hc] at hmk
  clear hc
  generalize w.alloc (.cells (madeCells #[.int .i64 0, .int .i64 0] ((n + 1) * 2)) 135) = w1 at *
  generalize hRr : w.heap.size = R at HR HB hmk
  have HRr := hid hRr
  clear hRr
  go_enter Tryz.func62, Tryz.ntmps62
  go_wp2_with fail
  clear hmk d1 d2
  go_loopw [17] (fun i wr => ∃ k : Nat, i = .int .i64 (k : Int) ∧ k ≤ n + 1 ∧ Hid (RowL wr R n (fz k) (fz k)) ∧ Hid (Kept w wr)) (fun i _ => n + 1 - (intOf i).toNat)
  case atStart => exact ⟨0, rfl, Nat.zero_le _, HR, HK⟩
  case round =>
    obtain ⟨k, rfl, hk, HRk, HKk⟩ := hrel
    clear HR HK
    by_cases hlt : k < n + 1
    · obtain ⟨w2, hw2⟩ : ∃ w2, wr.setCell ⟨R, k * 2, none⟩ (.int .i64 (k : Int)) = w2 := ⟨_, rfl⟩
      obtain ⟨w3, hw3⟩ : ∃ w3, w2.setCell ⟨R, k * 2 + 1, none⟩ (.int .i64 (k : Int)) = w3 := ⟨_, rfl⟩
      obtain ⟨r0, r1, rf⟩ := row_cells HRk.out (i := k) (by omega)
      have R2 := row_setA HRk.out (a := k) (by omega) k
      rw [hw2] at R2
      obtain ⟨s0, s1, sf⟩ := row_cells R2 (i := k) (by omega)
      have HR3 := hid (row_setB R2 (a := k) (by omega) k)
      rw [hw3, fz_next] at HR3
      have K2 := kept_set HKk.out (X := R) (Nat.le_of_eq HRr.out) (k * 2) (.int .i64 (k : Int))
      rw [hw2] at K2
      have HK3 := hid (kept_set K2 (X := R) (Nat.le_of_eq HRr.out) (k * 2 + 1) (.int .i64 (k : Int)))
      rw [hw3] at HK3
      clear R2 K2
      go_wp2_with fail
      go_roundw
      case rel => exact ⟨k + 1, by go_num, by omega, HR3, HK3⟩
      case measure => simp [intOf]; omega
    · have hke : k = n + 1 := by omega
      subst hke
      have HRe := hid (row_ext (A' := id) (B' := id) HRk.out (fun i hi => by unfold fz; rw [if_pos (by omega)]; rfl) (fun i hi => by unfold fz; rw [if_pos (by omega)]; rfl))
      clear HRk
      have HAt := hid (at_new wr #[.slice (some ⟨R, 0, none⟩) (n + 1) (n + 1)] 137)
      have HKe := hid (kept_alloc HKk.out (.cells #[.slice (some ⟨R, 0, none⟩) (n + 1) (n + 1)] 137))
      have HRf := hid (row_kept HRe.out (kept_alloc (kept_refl wr) (.cells #[.slice (some ⟨R, 0, none⟩) (n + 1) (n + 1)] 137)))
      clear HRe
      go_wp2_with fail
      go_ret2
      exact ⟨wr.heap.size, R, rfl, HKk.out.2, Nat.le_of_eq HRr.out, HKe.out, h1, h2, id, id, ⟨HAt.out, HRf.out⟩, ring_new n⟩
end Go.Proofs.YthgbdaladngpdaaGreat.Lru
