/- A table as a map: what it has of each key, and what setting and dropping make of that. The chapter's example, walked. -/
import Derived.Test.YtibdnhnomjcclaaNew
namespace Go.Proofs.Ytibdnhnomjcclaa
open Go.ChangeShapes Go.WideShapes Go.ChangeAt Go.RowKit
set_option linter.unusedVariables false
set_option linter.unusedSimpArgs false

def mp (m : Nat) (L : Tb) (k : ByteArray) : Option Int := if (L (spot (hm m) m L k)).taken = true then some (L (spot (hm m) m L k)).v else none
section
variable {m most : Nat} {L : Tb} {k : ByteArray} {v : Int}
theorem mp_some (ok : Ok (hm m) m L) (c : cnt L m < m) (k : ByteArray) (v : Int) : mp m L k = some v ↔ ∃ i, L i = ⟨true, k, v⟩ := by
  have f := spot_found (k := k) ok c
  unfold mp
  constructor
  · intro h
    by_cases t : (L (spot (hm m) m L k)).taken = true
    · rw [if_pos t] at h
      refine ⟨spot (hm m) m L k, ?_⟩
      have h1 := f.mine t
      injection h with h2
      revert h1 t h2
      generalize L (spot (hm m) m L k) = s
      rcases s with ⟨a, b, d⟩
      intro h1 t h2
      simp_all
    · rw [if_neg t] at h; cases h
  · rintro ⟨i, hi⟩
    have g := has_found ok (k := k) (i := i) ⟨by rw [hi], by rw [hi]⟩
    rw [found_one f g, hi]
    simp
theorem mp_none (ok : Ok (hm m) m L) (c : cnt L m < m) (k : ByteArray) : mp m L k = none ↔ ∀ i, ¬ Has L k i := by
  constructor
  · intro h i g
    have := (mp_some ok c k (L i).v).2 ⟨i, by have := g.1; have := g.2; revert this; revert this; generalize L i = s; rcases s with ⟨a, b, d⟩; intro h1 h2; simp_all⟩
    rw [h] at this; cases this
  · intro h
    cases e : mp m L k with
    | none => rfl
    | some v =>
      obtain ⟨i, hi⟩ := (mp_some ok c k v).1 e
      exact absurd ⟨by rw [hi], by rw [hi]⟩ (h i)
theorem mp_ext {M : Tb} (ok : Ok (hm m) m L) (c : cnt L m < m) (ok' : Ok (hm m) m M) (c' : cnt M m < m) (k : ByteArray) (o : Option Int) (h : ∀ v, (∃ i, L i = ⟨true, k, v⟩) ↔ o = some v) : mp m L k = o := by
  cases e : mp m L k with
  | none =>
    cases o with
    | none => rfl
    | some v => have := (mp_some ok c k v).2 ((h v).2 rfl); rw [e] at this; cases this
  | some v => exact ((h v).1 ((mp_some ok c k v).1 e)).symm
theorem taken_mp : (L (spot (hm m) m L k)).taken = (mp m L k).isSome := by
  unfold mp
  by_cases t : (L (spot (hm m) m L k)).taken = true
  · rw [if_pos t, t]; rfl
  · rw [if_neg t]; simpa using t
theorem valI_mp : valI m L k = (mp m L k).getD 0 := by
  unfold mp valI
  by_cases t : (L (spot (hm m) m L k)).taken = true
  · rw [if_pos t, if_pos t]; rfl
  · rw [if_neg t, if_neg t]; rfl
theorem slotI_mp : slotI m L k = if (mp m L k).isSome = true then ((spot (hm m) m L k : Nat) : Int) else -1 := by
  unfold slotI; rw [taken_mp]
theorem mp_new (h : 0 < m) (k : ByteArray) : mp m (fun _ => no) k = none := by
  refine (mp_none (ok_fresh h) ?_ k).2 (fun i g => by cases g.1)
  rw [cnt_new]; exact h
theorem set_err (L : Tb) (k : ByteArray) (v : Int) : (setT (hm m) m most L k v).1 = if mp m L k = none ∧ cnt L m = most then 6 else 0 := by
  unfold setT mp
  by_cases t : (L (spot (hm m) m L k)).taken = true
  · rw [if_pos t, if_pos t]; simp
  · rw [if_neg t, if_neg t]
    by_cases c : cnt L m = most
    · rw [if_pos c, if_pos ⟨rfl, c⟩]
    · rw [if_neg c, if_neg (fun h => c h.2)]
theorem set_full (L : Tb) (k : ByteArray) (v : Int) (h1 : mp m L k = none) (h2 : cnt L m = most) : (setT (hm m) m most L k v).2 = L := by
  unfold setT
  unfold mp at h1
  by_cases t : (L (spot (hm m) m L k)).taken = true
  · rw [if_pos t] at h1; cases h1
  · rw [if_neg t, if_pos h2]
theorem set_puts (L : Tb) (k : ByteArray) (v : Int) (h : ¬ (mp m L k = none ∧ cnt L m = most)) : (setT (hm m) m most L k v).2 = upd L (spot (hm m) m L k) ⟨true, k, v⟩ := by
  unfold setT
  by_cases t : (L (spot (hm m) m L k)).taken = true
  · rw [if_pos t]
  · rw [if_neg t]
    by_cases c : cnt L m = most
    · exact absurd ⟨by unfold mp; rw [if_neg t], c⟩ h
    · rw [if_neg c]
theorem set_mp {w w' : World} {X R : Nat} (g : Good w X R m most L) (g' : Good w' X R m most (setT (hm m) m most L k v).2) (h : ¬ (mp m L k = none ∧ cnt L m = most)) (q : ByteArray) : mp m (setT (hm m) m most L k v).2 q = if q = k then some v else mp m L q := by
  have e := set_puts L k v h
  rw [e] at g' ⊢
  refine mp_ext g'.ok g'.free g'.ok g'.free q _ (fun x => ?_)
  rw [ent_put g.ok (spot_found g.ok g.free) v ⟨true, q, x⟩ rfl]
  by_cases hq : q = k
  · subst hq
    rw [if_pos rfl]
    constructor
    · rintro (h | h)
      · injection h with _ _ h; rw [h]
      · exact absurd rfl h.2
    · intro h; injection h with h; rw [h]; exact .inl rfl
  · rw [if_neg hq, mp_some g.ok g.free]
    constructor
    · rintro (h | h)
      · injection h with _ h _; exact absurd h hq
      · exact h.1
    · intro h; exact .inr ⟨h, hq⟩
theorem set_cnt {w : World} {X R : Nat} (g : Good w X R m most L) (h : ¬ (mp m L k = none ∧ cnt L m = most)) : cnt (setT (hm m) m most L k v).2 m = cnt L m + if mp m L k = none then 1 else 0 := by
  rw [set_puts L k v h]
  have := cnt_upd L (i := spot (hm m) m L k) (n := m) ⟨true, k, v⟩ (spot_found g.ok g.free).lt
  have t := taken_mp (m := m) (L := L) (k := k)
  rw [t] at this
  cases e : mp m L k with
  | none => rw [e] at this; simpa using this
  | some x => rw [e] at this; simpa using this
theorem drop_told (L : Tb) (k : ByteArray) : (dropT (hm m) m L k).1 = (mp m L k).isSome := by
  unfold dropT mp
  by_cases t : (L (spot (hm m) m L k)).taken = true
  · rw [if_pos t, if_pos t]; rfl
  · rw [if_neg t, if_neg t]; rfl
theorem drop_none (L : Tb) (k : ByteArray) (h : mp m L k = none) : (dropT (hm m) m L k).2 = L := by
  unfold dropT
  unfold mp at h
  by_cases t : (L (spot (hm m) m L k)).taken = true
  · rw [if_pos t] at h; cases h
  · rw [if_neg t]
theorem drop_mp {w w' : World} {X R : Nat} (g : Good w X R m most L) (g' : Good w' X R m most (dropT (hm m) m L k).2) (q : ByteArray) : mp m (dropT (hm m) m L k).2 q = if q = k then none else mp m L q := by
  cases e : mp m L k with
  | none =>
    rw [drop_none L k e]
    by_cases hq : q = k
    · rw [if_pos hq, hq, e]
    · rw [if_neg hq]
  | some x =>
    have t : (L (spot (hm m) m L k)).taken = true := by rw [taken_mp, e]; rfl
    have f := spot_found (k := k) g.ok g.free
    have hk := f.mine t
    have ed : (dropT (hm m) m L k).2 = closed (hm m) m L (spot (hm m) m L k) := by unfold dropT; rw [if_pos t]
    have hc := (closed_all g.ok g.free t).2.2
    rw [ed] at g' ⊢
    refine mp_ext g'.ok g'.free g'.ok g'.free q _ (fun y => ?_)
    rw [hc ⟨true, q, y⟩ rfl, hk]
    by_cases hq : q = k
    · subst hq
      rw [if_pos rfl]
      constructor
      · rintro ⟨_, h⟩; exact absurd rfl h
      · intro h; cases h
    · rw [if_neg hq, mp_some g.ok g.free]
      exact ⟨fun h => h.1, fun h => ⟨h, hq⟩⟩
theorem drop_cnt {w : World} {X R : Nat} (g : Good w X R m most L) : cnt (dropT (hm m) m L k).2 m + (if mp m L k = none then 0 else 1) = cnt L m := by
  cases e : mp m L k with
  | none => rw [drop_none L k e]; simp
  | some x =>
    have t : (L (spot (hm m) m L k)).taken = true := by rw [taken_mp, e]; rfl
    have ed : (dropT (hm m) m L k).2 = closed (hm m) m L (spot (hm m) m L k) := by unfold dropT; rw [if_pos t]
    rw [ed]
    simpa using (closed_all g.ok g.free t).2.1
end
/- The chapter's example. -/
abbrev tA : ByteArray := ⟨#[97]⟩
abbrev tB : ByteArray := ⟨#[98]⟩
theorem ba_ne : tB ≠ tA := by
  intro e
  have := congrArg (fun s : ByteArray => s.data.toList) e
  simp at this
set_option maxHeartbeats 1600000 in
theorem fixed_any (w : World) : Calls Try.prog 10 #[] w fun e w' => e = .returned (.bool true) ∧ Kept w w' := by
  go_enter Try.func10, Try.ntmps10
  go_wp2_with fail
  refine (new_any 1 (by omega) (by omega) _).mono ?_
  rintro e w1 ⟨X, R, m, rfl, -, hX, hR, k1, g0⟩
  have HX := hid hX
  have HR := hid hR
  have HG0 := hid g0
  have HK1 := hid k1
  clear hX hR g0 k1
  go_wp2_with fail
  refine (set_any tA (by decide) 5 _ HG0.out).mono ?_
  rintro e w2 ⟨rfl, t2, g2⟩
  have hp := HG0.out.pos
  have m0 : ∀ q, mp m (fun _ => no) q = none := fun q => mp_new hp q
  have z0 : cnt (fun _ => no) m = 0 := cnt_new m
  have n0 : ¬ (mp m (fun _ => no) tA = none ∧ cnt (fun _ => no) m = 1) := by rw [z0]; simp
  have e2 : (setT (hm m) m 1 (fun _ => no) tA 5).1 = 0 := by rw [set_err, if_neg n0]
  have m2 := fun q => set_mp HG0.out g2 n0 q
  have z2 : cnt (setT (hm m) m 1 (fun _ => no) tA 5).2 m = 1 := by rw [set_cnt HG0.out n0, z0, m0]; simp
  rw [e2]
  have HK2 := hid (kept_turns HK1.out HX.out HR.out t2)
  have HG2 := hid g2
  generalize (setT (hm m) m 1 (fun _ => no) tA 5).2 = L2 at *
  clear t2 g2 n0 e2
  have a2 : mp m L2 tA = some 5 := by rw [m2, if_pos rfl]
  have b2 : mp m L2 tB = none := by rw [m2, if_neg ba_ne, m0]
  clear m2 m0 z0
  go_wp2_with fail
  refine (set_any tB (by decide) 6 _ HG2.out).mono ?_
  rintro e w3 ⟨rfl, t3, g3⟩
  have e3 : (setT (hm m) m 1 L2 tB 6).1 = 6 := by rw [set_err, if_pos ⟨b2, z2⟩]
  rw [set_full L2 tB 6 b2 z2] at g3
  rw [e3]
  have HK3 := hid (kept_turns HK2.out HX.out HR.out t3)
  have HG3 := hid g3
  clear t3 g3 e3
  go_wp2_with fail
  refine (set_any tA (by decide) 7 _ HG3.out).mono ?_
  rintro e w4 ⟨rfl, t4, g4⟩
  have n4 : ¬ (mp m L2 tA = none ∧ cnt L2 m = 1) := by rw [a2]; simp
  have e4 : (setT (hm m) m 1 L2 tA 7).1 = 0 := by rw [set_err, if_neg n4]
  have m4 := fun q => set_mp HG3.out g4 n4 q
  have z4 : cnt (setT (hm m) m 1 L2 tA 7).2 m = 1 := by rw [set_cnt HG3.out n4, z2, a2]; simp
  rw [e4]
  have HK4 := hid (kept_turns HK3.out HX.out HR.out t4)
  have HG4 := hid g4
  generalize (setT (hm m) m 1 L2 tA 7).2 = L4 at *
  clear t4 g4 n4 e4
  have a4 : mp m L4 tA = some 7 := by rw [m4, if_pos rfl]
  have b4 : mp m L4 tB = none := by rw [m4, if_neg ba_ne, b2]
  clear m4 a2 b2 z2
  go_wp2_with fail
  refine (get_any tA (by decide) _ HG4.out).mono ?_
  rintro e w5 ⟨rfl, k5⟩
  rw [valI_mp, taken_mp, a4]
  have HK5 := hid (kept_trans HK4.out k5)
  have HG5 := hid (good_kept HG4.out k5)
  clear k5
  go_wp2_with fail
  refine (drop_any tA (by decide) _ HG5.out).mono ?_
  rintro e w6 ⟨rfl, t6, g6⟩
  have m6 := fun q => drop_mp HG5.out g6 q
  have z6 : cnt (dropT (hm m) m L4 tA).2 m = 0 := by
    have := drop_cnt (k := tA) HG5.out
    rw [a4, z4] at this
    simpa using this
  have e6 : (dropT (hm m) m L4 tA).1 = true := by rw [drop_told, a4]; rfl
  rw [e6]
  have HK6 := hid (kept_turns HK5.out HX.out HR.out t6)
  have HG6 := hid g6
  generalize (dropT (hm m) m L4 tA).2 = L6 at *
  have b6 : mp m L6 tB = none := by rw [m6, if_neg ba_ne, b4]
  clear t6 g6 e6 m6 a4 b4 z4
  go_wp2_with fail
  refine (set_any tB (by decide) 6 _ HG6.out).mono ?_
  rintro e w7 ⟨rfl, t7, g7⟩
  have n7 : ¬ (mp m L6 tB = none ∧ cnt L6 m = 1) := by rw [z6]; simp
  have e7 : (setT (hm m) m 1 L6 tB 6).1 = 0 := by rw [set_err, if_neg n7]
  have z7 : cnt (setT (hm m) m 1 L6 tB 6).2 m = 1 := by rw [set_cnt HG6.out n7, z6, b6]; simp
  rw [e7]
  have HK7 := hid (kept_turns HK6.out HX.out HR.out t7)
  have ht := g7.tab
  rw [z7] at ht
  have HT7 := hid ht
  clear t7 g7 n7 e7 ht z7
  go_wp2_with fail
  refine (len_any _ HT7.out).mono ?_
  rintro e w8 ⟨rfl, rfl⟩
  go_wp2_with fail
  go_ret
  exact ⟨rfl, HK7.out⟩
end Go.Proofs.Ytibdnhnomjcclaa
