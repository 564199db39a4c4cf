/- The plain side of CountLost: two counts, what was added to each and what was told of each, as maps; and how these stand side by side in memory. At most 201 calls. -/
import Derived.Test.YtibidhmahjbciaaCtMaps
import Derived.Test.YtibidhmahjbciaaCtLaw4
namespace Go.Proofs.Ytibidhmahjbciaa
open Go.ChangeShapes Go.WideShapes Go.ChangeAt Go.RowKit
set_option linter.unusedVariables false
set_option linter.unusedSimpArgs false
set_option maxRecDepth 100000

def vG (g : ByteArray → Option Int) (q : ByteArray) : Int := (g q).getD 0
def updG (g : ByteArray → Option Int) (q : ByteArray) (y : Int) : ByteArray → Option Int := fun z => if z = q then some y else g z
theorem vG_same (g : ByteArray → Option Int) (q : ByteArray) (y : Int) : vG (updG g q y) q = y := by simp [vG, updG]
theorem vG_other (g : ByteArray → Option Int) {q z : ByteArray} (y : Int) (h : z ≠ q) : vG (updG g q y) z = vG g z := by simp [vG, updG, h]
theorem tXY : tX ≠ tY := by decide
theorem tX_size : tX.size ≤ maxLen := by decide
theorem tY_size : tY.size ≤ maxLen := by decide
def two (a b : Int) : List Ct := [⟨tX, a⟩, ⟨tY, b⟩]
theorem qok_xy : ∀ x ∈ [tX, tY], QOk x := fun x hx => by
  simp only [List.mem_cons, List.not_mem_nil, or_false] at hx
  rcases hx with rfl | rfl <;> exact qok_one _
theorem may_xy : MayC [tX, tY] := may_of _ (by decide) (by decide) (by decide) (by decide)
theorem two_new : newC [tX, tY] = two 0 0 := rfl
theorem two_rest (a b : Int) : restC (two a b) = two 0 0 := rfl
theorem two_px (a b : Int) : placeC (two a b) tX = 0 := place_yes _ _ _
theorem two_py (a b : Int) : placeC (two a b) tY = 1 := by
  unfold two
  rw [place_no _ _ (show (⟨tX, a⟩ : Ct).name ≠ tY from tXY), place_yes]
theorem two_pn (a b : Int) {q : ByteArray} (h1 : q ≠ tX) (h2 : q ≠ tY) : placeC (two a b) q = 2 := by
  unfold two
  rw [place_no _ _ (show (⟨tX, a⟩ : Ct).name ≠ q from fun e => h1 e.symm), place_no _ _ (show (⟨tY, b⟩ : Ct).name ≠ q from fun e => h2 e.symm)]
  rfl
theorem two_ok {a b : Int} (ha : inU64 a) (hb : inU64 b) : LsOk (two a b) := ⟨show 2 ≤ 4096 from by decide, fun c hc => by
  unfold two at hc
  simp only [List.mem_cons, List.not_mem_nil, or_false] at hc
  rcases hc with rfl | rfl
  · exact ha
  · exact hb⟩
theorem two_is {a b : Int} {i : Nat} {c : Ct} (h : (two a b)[i]? = some c) : (i = 0 ∧ c = ⟨tX, a⟩) ∨ (i = 1 ∧ c = ⟨tY, b⟩) := by
  unfold two at h
  match i with
  | 0 => exact .inl ⟨rfl, by simpa using h.symm⟩
  | 1 => exact .inr ⟨rfl, by simpa using h.symm⟩
  | i + 2 => simp at h
theorem two_names {a b : Int} {i : Nat} {c : Ct} (h : (two a b)[i]? = some c) : [tX, tY][i]? = some c.name := by
  rcases two_is h with ⟨rfl, rfl⟩ | ⟨rfl, rfl⟩ <;> rfl
/- What was added and what was told, as numbers. -/
structure LoN (k : Nat) (a b : Int) (ga gt : ByteArray → Option Int) (ca cb : Nat) : Prop where
  a0 : 0 ≤ a
  b0 : 0 ≤ b
  x0 : 0 ≤ vG gt tX
  y0 : 0 ≤ vG gt tY
  x : vG gt tX + a = vG ga tX
  y : vG gt tY + b = vG ga tY
  mx : vG ga tX ≤ (k : Int) * 1125899906842624
  my : vG ga tY ≤ (k : Int) * 1125899906842624
  ca : ca ≤ k
  cb : cb ≤ 2 * k
  kk : k ≤ 201
theorem lon_zero : LoN 0 0 0 (fun _ => none) (fun _ => none) 0 0 := ⟨by decide, by decide, by decide, by decide, rfl, rfl, by decide, by decide, by decide, by decide, by decide⟩
section
variable {k i : Nat} {a b n : Int} {ga gt g : ByteArray → Option Int} {ca cb c : Nat}
theorem lon_ok (N : LoN k a b ga gt ca cb) : LsOk (two a b) := by
  have h := N.kk; have h1 := N.a0; have h2 := N.b0; have h3 := N.x0; have h4 := N.y0; have h5 := N.x; have h6 := N.y; have h7 := N.mx; have h8 := N.my
  exact two_ok ⟨h1, by omega⟩ ⟨h2, by omega⟩
theorem isn (g : ByteArray → Option Int) (q : ByteArray) : (if (g q).isSome then 0 else 1) ≤ 1 := by split <;> decide
theorem lo_add (N : LoN k a b ga gt ca cb) (hk : k ≤ 200) (hn : 0 ≤ n ∧ n < 1125899906842624) (q : ByteArray) :
    (hasC (two a b) q = false ∧ addC (two a b) q n = two a b ∧ LoN (k + 1) a b ga gt ca cb) ∨
    (hasC (two a b) q = true ∧ q.size ≤ maxLen ∧ 0 ≤ vG ga q ∧ vG ga q + n ≤ 18446744073709551615 ∧ ∃ a' b', addC (two a b) q n = two a' b' ∧ LoN (k + 1) a' b' (updG ga q (vG ga q + n)) gt (ca + if (ga q).isSome then 0 else 1) cb) := by
  have h := N.kk; have h1 := N.a0; have h2 := N.b0; have h3 := N.x0; have h4 := N.y0; have h5 := N.x; have h6 := N.y; have h7 := N.mx; have h8 := N.my; have h9 := N.ca; have h10 := N.cb
  have hi := isn ga q
  by_cases ex : q = tX
  · subst ex
    refine .inr ⟨by unfold hasC; rw [two_px]; rfl, tX_size, by omega, by omega, a + n, b, ?_, ⟨by omega, h2, h3, h4, ?_, ?_, ?_, ?_, by omega, by omega, by omega⟩⟩
    · rw [add_at (i := 0) (x := ⟨tX, a⟩) n rfl (two_px _ _)]
      have : moreC a n = a + n := by unfold moreC topC; rw [if_pos (by omega)]
      show ([⟨tX, moreC a n⟩, ⟨tY, b⟩] : List Ct) = _
      rw [this]
      rfl
    · rw [vG_same]; omega
    · rw [vG_other _ _ tXY.symm]; exact h6
    · rw [vG_same]; omega
    · rw [vG_other _ _ tXY.symm]; omega
  · by_cases ey : q = tY
    · subst ey
      refine .inr ⟨by unfold hasC; rw [two_py]; rfl, tY_size, by omega, by omega, a, b + n, ?_, ⟨h1, by omega, h3, h4, ?_, ?_, ?_, ?_, by omega, by omega, by omega⟩⟩
      · rw [add_at (i := 1) (x := ⟨tY, b⟩) n rfl (two_py _ _)]
        have : moreC b n = b + n := by unfold moreC topC; rw [if_pos (by omega)]
        show ([⟨tX, a⟩, ⟨tY, moreC b n⟩] : List Ct) = _
        rw [this]
        rfl
      · rw [vG_other _ _ tXY]; exact h5
      · rw [vG_same]; omega
      · rw [vG_other _ _ tXY]; omega
      · rw [vG_same]; omega
    · exact .inl ⟨by unfold hasC; rw [two_pn _ _ ex ey]; rfl, add_off n (two_pn _ _ ex ey), ⟨h1, h2, h3, h4, h5, h6, by omega, by omega, by omega, by omega, by omega⟩⟩
/- While a reset's row is gone through. -/
structure InN (i : Nat) (a b : Int) (gt g : ByteArray → Option Int) (cb c : Nat) : Prop where
  x : vG g tX = vG gt tX + (if 0 < i then a else 0)
  y : vG g tY = vG gt tY + (if 1 < i then b else 0)
  c : c ≤ cb + i
theorem in_zero (a b : Int) (gt : ByteArray → Option Int) (cb : Nat) : InN 0 a b gt gt cb cb := ⟨by simp, by simp, by omega⟩
theorem in_next (N : LoN k a b ga gt ca cb) (I : InN i a b gt g cb c) {d : Ct} (hd : (two a b)[i]? = some d) :
    d.name.size ≤ maxLen ∧ 0 ≤ vG g d.name ∧ 0 ≤ d.n ∧ vG g d.name + d.n ≤ 18446744073709551615 ∧ InN (i + 1) a b gt (updG g d.name (vG g d.name + d.n)) cb (c + if (g d.name).isSome then 0 else 1) := by
  have h := N.kk; have h1 := N.a0; have h2 := N.b0; have h3 := N.x0; have h4 := N.y0; have h5 := N.x; have h6 := N.y; have h7 := N.mx; have h8 := N.my
  have g1 := I.x; have g2 := I.y; have g3 := I.c
  have hi := isn g d.name
  rcases two_is hd with ⟨rfl, rfl⟩ | ⟨rfl, rfl⟩
  · simp only [Nat.lt_irrefl, if_false, show ¬ (1 < 0) by omega, Int.add_zero] at g1 g2
    refine ⟨tX_size, by show 0 ≤ vG g tX; omega, h1, by show vG g tX + a ≤ _; omega, ⟨?_, ?_, ?_⟩⟩
    · show vG (updG g tX (vG g tX + a)) tX = _
      rw [vG_same, g1]; simp
    · show vG (updG g tX (vG g tX + a)) tY = _
      rw [vG_other _ _ tXY.symm, g2]; simp
    · omega
  · simp only [Nat.lt_irrefl, if_false, show (0 : Nat) < 1 by omega, if_true, Int.add_zero] at g1 g2
    refine ⟨tY_size, by show 0 ≤ vG g tY; omega, h2, by show vG g tY + b ≤ _; omega, ⟨?_, ?_, ?_⟩⟩
    · show vG (updG g tY (vG g tY + b)) tX = _
      rw [vG_other _ _ tXY, g1]; simp
    · show vG (updG g tY (vG g tY + b)) tY = _
      rw [vG_same, g2]; simp
    · omega
theorem in_end (N : LoN k a b ga gt ca cb) (hk : k ≤ 200) (I : InN 2 a b gt g cb c) : LoN (k + 1) 0 0 ga g ca c := by
  have h := N.kk; have h1 := N.a0; have h2 := N.b0; have h3 := N.x0; have h4 := N.y0; have h5 := N.x; have h6 := N.y; have h7 := N.mx; have h8 := N.my; have h9 := N.ca; have h10 := N.cb
  have g1 := I.x; have g2 := I.y; have g3 := I.c
  simp only [show (0 : Nat) < 2 by omega, show (1 : Nat) < 2 by omega, if_true] at g1 g2
  exact ⟨by omega, by omega, by omega, by omega, by omega, by omega, by omega, by omega, by omega, by omega, by omega⟩
theorem lo_end (N : LoN k a b ga gt ca cb) {d : Ct} (hd : (two a b)[i]? = some d) : TxOk d.name ∧ getC (two a b) d.name = d.n ∧ vG gt d.name + d.n = vG ga d.name ∧ inU64 (vG ga d.name) := by
  have h := N.kk; have h1 := N.a0; have h2 := N.b0; have h3 := N.x0; have h4 := N.y0; have h5 := N.x; have h6 := N.y; have h7 := N.mx; have h8 := N.my
  rcases two_is hd with ⟨rfl, rfl⟩ | ⟨rfl, rfl⟩
  · refine ⟨tx_one _, ?_, h5, ?_⟩
    · unfold getC; rw [two_px]; rfl
    · show 0 ≤ vG ga tX ∧ vG ga tX ≤ _
      omega
  · refine ⟨tx_one _, ?_, h6, ?_⟩
    · unfold getC; rw [two_py]; rfl
    · show 0 ≤ vG ga tY ∧ vG ga tY ≤ _
      omega
end
/- The counts and the two maps side by side. -/
structure Lo (T : Shape (List Ct)) (W : World) (X : Nat) (a b : Int) (F : Nat → Prop) (A : Nat) (ga : ByteArray → Option Int) (ca B : Nat) (gt : ByteArray → Option Int) (cb : Nat) (w : World) : Prop where
  t : TT T W X (two a b) F w
  a : Gm Try.prog mapN w A ga ca
  b : Gm Try.prog mapN w B gt cb
  oa : Off w F A
  ob : Off w F B
  ha : W.heap.size ≤ A
  hb : W.heap.size ≤ B
  ne : A ≠ B
section
variable {T : Shape (List Ct)} {W w w' : World} {X A B : Nat} {a b a' b' : Int} {F F' : Nat → Prop} {ga gt g : ByteArray → Option Int} {ca cb c : Nat}
theorem gm_turned {m b : Nat} (h : Gm Try.prog mapN w m g c) (t : w.mapTurned w' b) (hn : m ≠ b) : Gm Try.prog mapN w' m g c := gm_block h (turned_block t (gm_lt h) hn)
theorem gm_sd {m : Nat} (h : Gm Try.prog mapN w m g c) (o : Off w F m) (s : Sd F w F' w') : Gm Try.prog mapN w' m g c := gm_block h (off_same o s)
theorem lo_kept (hT : CtIs T) (h : Lo T W X a b F A ga ca B gt cb w) (k : Kept w w') : Lo T W X a b F A ga ca B gt cb w' := ⟨tt_kept hT.obj h.t k, gm_kept h.a k, gm_kept h.b k, off_kept h.oa k, off_kept h.ob k, h.ha, h.hb, h.ne⟩
theorem lo_sd (h : Lo T W X a b F A ga ca B gt cb w) (t : TT T W X (two a' b') F' w') (d : Sd F w F' w') : Lo T W X a' b' F' A ga ca B gt cb w' := ⟨t, gm_sd h.a h.oa d, gm_sd h.b h.ob d, off_sd h.oa d, off_sd h.ob d, h.ha, h.hb, h.ne⟩
theorem lo_putA (hT : CtIs T) (h : Lo T W X a b F A ga ca B gt cb w) (m : Gm Try.prog mapN w' A g c) (t : w.mapTurned w' A) : Lo T W X a b F A g c B gt cb w' := ⟨tt_turned hT.obj h.t h.oa h.ha t, m, gm_turned h.b t h.ne.symm, off_turned h.oa t, off_turned h.ob t, h.ha, h.hb, h.ne⟩
theorem lo_putB (hT : CtIs T) (h : Lo T W X a b F A ga ca B gt cb w) (m : Gm Try.prog mapN w' B g c) (t : w.mapTurned w' B) : Lo T W X a b F A ga ca B g c w' := ⟨tt_turned hT.obj h.t h.ob h.hb t, gm_turned h.a t h.ne, m, off_turned h.oa t, off_turned h.ob t, h.ha, h.hb, h.ne⟩
theorem lo_start (hT : CtIs T) (h : TT T W X (two 0 0) F w) : Lo T W X 0 0 F w.heap.size (fun _ => none) 0 (w.heap.size + 1) (fun _ => none) 0 ((w.alloc (.map #[] 0)).alloc (.map #[] 0)) := by
  have k1 := kept_alloc (kept_refl w) (.map #[] 0)
  have k2 := kept_alloc (kept_refl (w.alloc (.map #[] 0))) (.map #[] 0)
  have m1 : Gm Try.prog mapN (w.alloc (.map #[] 0)) w.heap.size (fun _ => none) 0 := gm_made w
  have m2 : Gm Try.prog mapN ((w.alloc (.map #[] 0)).alloc (.map #[] 0)) (w.alloc (.map #[] 0)).heap.size (fun _ => none) 0 := gm_made _
  have es : (w.alloc (.map #[] 0)).heap.size = w.heap.size + 1 := by simp
  rw [es] at m2
  exact ⟨tt_kept hT.obj (tt_kept hT.obj h k1) k2, gm_kept m1 k2, m2, off_kept (off_new hT.obj h (Nat.le_refl _) (gm_lt m1)) k2, off_new hT.obj h (by omega) (gm_lt m2), h.k.2, Nat.le_trans h.k.2 (by omega), by omega⟩
theorem og_pos {α : Type} {enc : α → List Value} {d U Bs : Nat} {v : Value} {xs : List α} (he : Enc enc d) (h : Og enc d U w Bs v xs) (hp : 0 < xs.length) : ∃ q cap, v = .slice (some ⟨q, 0, none⟩) xs.length cap := og_some h (fun e => by
  subst e
  obtain ⟨g, o, c, e⟩ := rg_pos (rg_own he h) hp
  injection e with e1
  cases e1)
theorem look_N {m : Nat} (h : Gm Try.prog mapN w m g c) {q : ByteArray} (hq : q.size ≤ maxLen) : (Instr.lookup 44 (.map (some m)) (.string q) false).run Try.prog w = .ok (.int .u64 (vG g q)) w := gm_look1 mapN_ok h hq
theorem put_N {m : Nat} (h : Gm Try.prog mapN w m g c) (hc : c ≤ 1000) {q : ByteArray} (hq : q.size ≤ maxLen) (y : Int) : ∃ w', (Instr.mapUpdate 44 (.map (some m)) (.string q) (.int .u64 y)).run Try.prog w = .ok () w' ∧ Gm Try.prog mapN w' m (updG g q y) (c + if (g q).isSome then 0 else 1) ∧ w.mapTurned w' m := gm_put mapN_ok h (by omega) hq y
end
end Go.Proofs.Ytibidhmahjbciaa
