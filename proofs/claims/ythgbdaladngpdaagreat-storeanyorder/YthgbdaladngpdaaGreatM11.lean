/- A store in memory: its object of 264 cells, its row of records, its table, its list, its wheel; what stands and what turns. No condition. The contracts of the store's small functions: a key's range, a record's length, what is old when, what is taken, what is above its floor; Len, Size, Evicted, Floor, Digest; the same of a nil store. Texts have at most as many bytes as a text may have. -/
import Derived.Test.YthgbdaladngpdaaGreatM10
import Derived.BigQuiet
/- A store in memory: its object of 264 cells, its row of records, its table, its list, its wheel; what stands and what turns. No condition. -/
namespace Go.Proofs.YthgbdaladngpdaaGreat
open Go.ChangeShapes Go.WideShapes Go.ChangeAt Go.RowKit
open Go.Proofs.YthgbdaladngpdaaGreat.Whl (Tn tn_kept tn_refl tn_trans tn_set tn_alloc at_tn kept_tn It)
set_option linter.unusedVariables false
set_option linter.unusedSimpArgs false
set_option maxRecDepth 100000

theorem tn_mono {F G : Nat → Prop} {w w' : World} (h : Tn G w w') (hG : ∀ k, G k → F k) : Tn F w w' := ⟨h.1, h.2.1, h.2.2.1, fun k hk hn => h.2.2.2 k hk (fun g => hn (hG k g))⟩
theorem tn_turn {F : Nat → Prop} {w w' : World} {c : Nat} (h : Turn c w w') (hc : F c) : Tn F w w' := ⟨h.1, h.2.1, h.2.2.1, fun k hk hn => h.2.2.2 k hk (fun e => hn (e ▸ hc))⟩
theorem tn_turns {F : Nat → Prop} {w w' : World} {X R : Nat} (h : Slo.Turns X R w w') (hX : F X) (hR : F R) : Tn F w w' := ⟨h.1, h.2.1, h.2.2.1, fun k hk hn => h.2.2.2 k hk (fun e => hn (e ▸ hX)) (fun e => hn (e ▸ hR))⟩
theorem tn_drew {F : Nat → Prop} {u w : World} (h : Tn F u w) : Tn F u w.drew := h
theorem tn_drewN {F : Nat → Prop} {u w : World} (h : Tn F u w) (n : Nat) : Tn F u (w.drewN n) := h
/- A row of records. -/
def set8o (w : World) (P o : Nat) (a0 a1 a2 a3 a4 a5 a6 a7 : Value) : World := (((((((w.setCell ⟨P, o, none⟩ a0).setCell ⟨P, o + 1, none⟩ a1).setCell ⟨P, o + 2, none⟩ a2).setCell ⟨P, o + 3, none⟩ a3).setCell ⟨P, o + 4, none⟩ a4).setCell ⟨P, o + 5, none⟩ a5).setCell ⟨P, o + 6, none⟩ a6).setCell ⟨P, o + 7, none⟩ a7
def Cs8 (cs : Array Value) (o : Nat) (r : R) : Prop := cs[o]? = some (.string r.key) ∧ cs[o + 1]? = some (.int .u64 r.s.p) ∧ cs[o + 2]? = some (.int .u32 r.s.l) ∧ cs[o + 3]? = some (.int .u8 r.s.n) ∧ cs[o + 4]? = some (.int .u8 r.kind) ∧ cs[o + 5]? = some (.int .u32 r.flags) ∧ cs[o + 6]? = some (.int .u64 r.exp) ∧ cs[o + 7]? = some (.string r.body)
def RowR (w : World) (P n : Nat) (pl : Nat → R) : Prop := ∃ cs, At w P cs 42 ∧ cs.size = n * 8 ∧ ∀ i, i < n → Cs8 cs (i * 8) (pl i)
theorem set_get (cs : Array Value) {i j : Nat} (v : Value) (h : i ≠ j) : (cs.setIfInBounds i v)[j]? = cs[j]? := by rw [Array.getElem?_setIfInBounds, if_neg h]
theorem set_got (cs : Array Value) {i : Nat} (v : Value) (h : i < cs.size) : (cs.setIfInBounds i v)[i]? = some v := by rw [Array.getElem?_setIfInBounds, if_pos rfl, if_pos h]
theorem cs8_set {cs : Array Value} {o : Nat} {r : R} (h : Cs8 cs o r) {j : Nat} (v : Value) (hj : j < o ∨ o + 8 ≤ j) : Cs8 (cs.setIfInBounds j v) o r := by
  obtain ⟨h0, h1, h2, h3, h4, h5, h6, h7⟩ := h
  refine ⟨?_, ?_, ?_, ?_, ?_, ?_, ?_, ?_⟩ <;> (rw [set_get _ _ (by omega)]; assumption)
theorem cs8_sets {cs : Array Value} {o : Nat} {r : R} (h : Cs8 cs o r) {j : Nat} (a0 a1 a2 a3 a4 a5 a6 a7 : Value) (hj : j + 8 ≤ o ∨ o + 8 ≤ j) :
    Cs8 ((((((((cs.setIfInBounds j a0).setIfInBounds (j + 1) a1).setIfInBounds (j + 2) a2).setIfInBounds (j + 3) a3).setIfInBounds (j + 4) a4).setIfInBounds (j + 5) a5).setIfInBounds (j + 6) a6).setIfInBounds (j + 7) a7) o r :=
  cs8_set (cs8_set (cs8_set (cs8_set (cs8_set (cs8_set (cs8_set (cs8_set h _ (by omega)) _ (by omega)) _ (by omega)) _ (by omega)) _ (by omega)) _ (by omega)) _ (by omega)) _ (by omega)
theorem cs8_here (cs : Array Value) (j : Nat) (r : R) (h : j + 8 ≤ cs.size) :
    Cs8 ((((((((cs.setIfInBounds j (.string r.key)).setIfInBounds (j + 1) (.int .u64 r.s.p)).setIfInBounds (j + 2) (.int .u32 r.s.l)).setIfInBounds (j + 3) (.int .u8 r.s.n)).setIfInBounds (j + 4) (.int .u8 r.kind)).setIfInBounds (j + 5) (.int .u32 r.flags)).setIfInBounds (j + 6) (.int .u64 r.exp)).setIfInBounds (j + 7) (.string r.body)) j r := by
  refine ⟨?_, ?_, ?_, ?_, ?_, ?_, ?_, ?_⟩
  · rw [set_get _ _ (by omega), set_get _ _ (by omega), set_get _ _ (by omega), set_get _ _ (by omega), set_get _ _ (by omega), set_get _ _ (by omega), set_get _ _ (by omega), set_got _ _ (by omega)]
  · rw [set_get _ _ (by omega), set_get _ _ (by omega), set_get _ _ (by omega), set_get _ _ (by omega), set_get _ _ (by omega), set_get _ _ (by omega), set_got _ _ (by simp; omega)]
  · rw [set_get _ _ (by omega), set_get _ _ (by omega), set_get _ _ (by omega), set_get _ _ (by omega), set_get _ _ (by omega), set_got _ _ (by simp; omega)]
  · rw [set_get _ _ (by omega), set_get _ _ (by omega), set_get _ _ (by omega), set_get _ _ (by omega), set_got _ _ (by simp; omega)]
  · rw [set_get _ _ (by omega), set_get _ _ (by omega), set_get _ _ (by omega), set_got _ _ (by simp; omega)]
  · rw [set_get _ _ (by omega), set_get _ _ (by omega), set_got _ _ (by simp; omega)]
  · rw [set_get _ _ (by omega), set_got _ _ (by simp; omega)]
  · rw [set_got _ _ (by simp; omega)]
section
variable {w w' : World} {P n : Nat} {pl : Nat → R}
theorem rowR_block (h : RowR w P n pl) (e : w'.heap[P]? = w.heap[P]?) : RowR w' P n pl := by
  obtain ⟨cs, h, g⟩ := h
  exact ⟨cs, e.trans h, g⟩
theorem rowR_lt (h : RowR w P n pl) : P < w.heap.size := by obtain ⟨cs, h, _⟩ := h; exact at_lt h
def C8 (w : World) (P o : Nat) (r : R) : Prop := w.cell? ⟨P, o, none⟩ = some (.string r.key) ∧ w.cell? ⟨P, o + 1, none⟩ = some (.int .u64 r.s.p) ∧ w.cell? ⟨P, o + 2, none⟩ = some (.int .u32 r.s.l) ∧ w.cell? ⟨P, o + 3, none⟩ = some (.int .u8 r.s.n) ∧ w.cell? ⟨P, o + 4, none⟩ = some (.int .u8 r.kind) ∧ w.cell? ⟨P, o + 5, none⟩ = some (.int .u32 r.flags) ∧ w.cell? ⟨P, o + 6, none⟩ = some (.int .u64 r.exp) ∧ w.cell? ⟨P, o + 7, none⟩ = some (.string r.body)
theorem rowR_cells (h : RowR w P n pl) {i : Nat} (hi : i < n) : C8 w P (i * 8) (pl i) ∧ ∀ j, w.frozen? ⟨P, j, none⟩ = false := by
  obtain ⟨cs, h, _, g⟩ := h
  obtain ⟨g0, g1, g2, g3, g4, g5, g6, g7⟩ := g i hi
  exact ⟨⟨(at_cell h _).trans g0, (at_cell h _).trans g1, (at_cell h _).trans g2, (at_cell h _).trans g3, (at_cell h _).trans g4, (at_cell h _).trans g5, (at_cell h _).trans g6, (at_cell h _).trans g7⟩, at_frozen h⟩
theorem rowR_set (h : RowR w P n pl) {i : Nat} (hi : i < n) (r : R) : RowR (set8o w P (i * 8) (.string r.key) (.int .u64 r.s.p) (.int .u32 r.s.l) (.int .u8 r.s.n) (.int .u8 r.kind) (.int .u32 r.flags) (.int .u64 r.exp) (.string r.body)) P n (updR pl i r) := by
  obtain ⟨cs, h, hs, g⟩ := h
  refine ⟨_, at_set (at_set (at_set (at_set (at_set (at_set (at_set (at_set h _ _) _ _) _ _) _ _) _ _) _ _) _ _) _ _, by simpa using hs, fun j hj => ?_⟩
  by_cases e : j = i
  · subst e
    rw [updR_at]
    exact cs8_here cs _ r (by omega)
  · rw [updR_ne _ _ e]
    exact cs8_sets (g j hj) _ _ _ _ _ _ _ _ (by omega)
theorem set8o_heap (w : World) (P o : Nat) (a0 a1 a2 a3 a4 a5 a6 a7 : Value) {k : Nat} (hk : k ≠ P) : (set8o w P o a0 a1 a2 a3 a4 a5 a6 a7).heap[k]? = w.heap[k]? := by
  unfold set8o
  repeat rw [Below.heap_setCell _ _ _ _ (by show k ≠ P; exact hk)]
theorem set8o_size (w : World) (P o : Nat) (a0 a1 a2 a3 a4 a5 a6 a7 : Value) : (set8o w P o a0 a1 a2 a3 a4 a5 a6 a7).heap.size = w.heap.size := by
  unfold set8o
  simp [World.setCell]
theorem tn_set8o {F : Nat → Prop} {u : World} (h : Tn F u w) (hP : F P) (o : Nat) (a0 a1 a2 a3 a4 a5 a6 a7 : Value) : Tn F u (set8o w P o a0 a1 a2 a3 a4 a5 a6 a7) :=
  tn_set (tn_set (tn_set (tn_set (tn_set (tn_set (tn_set (tn_set h (.inl hP) _ _) (.inl hP) _ _) (.inl hP) _ _) (.inl hP) _ _) (.inl hP) _ _) (.inl hP) _ _) (.inl hP) _ _) (.inl hP) _ _
end
/- The object. -/
structure Ad where
  P : Nat
  Xt : Nat
  Rt : Nat
  m : Nat
  Xl : Nat
  Rl : Nat
  Xw : Nat
  Fw : Nat → Prop
  T : Slo.Tb
structure Ob (cs : Array Value) (P n Xt Xl Xw : Nat) (fl : Nat → Stp) (dg : Nat → Nat) (B K : Nat) (size : Nat) (ev : Nat) : Prop where
  sz : cs.size = 264
  c0 : cs[0]? = some (.slice (some ⟨P, 0, none⟩) n n)
  c1 : cs[1]? = some (.pointer (some ⟨Xt, 0, none⟩))
  c2 : cs[2]? = some (.pointer (some ⟨Xl, 0, none⟩))
  c3 : cs[3]? = some (.pointer (some ⟨Xw, 0, none⟩))
  fl : ∀ k, k < 64 → cs[4 + k * 3]? = some (.int .u64 (fl k).p) ∧ cs[4 + k * 3 + 1]? = some (.int .u32 (fl k).l) ∧ cs[4 + k * 3 + 2]? = some (.int .u8 (fl k).n)
  dg : ∀ k, k < 64 → cs[196 + k]? = some (.int .u64 (dg k : Int))
  mo : cs[260]? = some (.int .i64 (B : Int))
  si : cs[261]? = some (.int .i64 (size : Int))
  ke : cs[262]? = some (.int .u64 (K : Int))
  ev : cs[263]? = some (.int .i64 (ev : Int))
def updN (f : Nat → Nat) (a v : Nat) : Nat → Nat := fun i => if i = a then v else f i
def updS (f : Nat → Stp) (a : Nat) (v : Stp) : Nat → Stp := fun i => if i = a then v else f i
section
variable {cs : Array Value} {P n Xt Xl Xw : Nat} {fl : Nat → Stp} {dg : Nat → Nat} {B K size ev : Nat}
theorem ob_dg (h : Ob cs P n Xt Xl Xw fl dg B K size ev) {k : Nat} (hk : k < 64) (v : Nat) : Ob (cs.setIfInBounds (196 + k) (.int .u64 (v : Int))) P n Xt Xl Xw fl (updN dg k v) B K size ev := by
  have hs := h.sz
  refine ⟨by simpa using h.sz, ?_, ?_, ?_, ?_, fun j hj => ⟨?_, ?_, ?_⟩, fun j hj => ?_, ?_, ?_, ?_, ?_⟩
  · rw [set_get _ _ (by omega)]; exact h.c0
  · rw [set_get _ _ (by omega)]; exact h.c1
  · rw [set_get _ _ (by omega)]; exact h.c2
  · rw [set_get _ _ (by omega)]; exact h.c3
  · rw [set_get _ _ (by omega)]; exact (h.fl j hj).1
  · rw [set_get _ _ (by omega)]; exact (h.fl j hj).2.1
  · rw [set_get _ _ (by omega)]; exact (h.fl j hj).2.2
  · by_cases e : j = k
    · subst e; rw [set_got _ _ (by omega)]; simp [updN]
    · rw [set_get _ _ (by omega)]; simp only [updN, if_neg e]; exact h.dg j hj
  · rw [set_get _ _ (by omega)]; exact h.mo
  · rw [set_get _ _ (by omega)]; exact h.si
  · rw [set_get _ _ (by omega)]; exact h.ke
  · rw [set_get _ _ (by omega)]; exact h.ev
theorem ob_si (h : Ob cs P n Xt Xl Xw fl dg B K size ev) (v : Nat) : Ob (cs.setIfInBounds 261 (.int .i64 (v : Int))) P n Xt Xl Xw fl dg B K v ev := by
  have hs := h.sz
  refine ⟨by simpa using h.sz, ?_, ?_, ?_, ?_, fun j hj => ⟨?_, ?_, ?_⟩, fun j hj => ?_, ?_, ?_, ?_, ?_⟩
  · rw [set_get _ _ (by omega)]; exact h.c0
  · rw [set_get _ _ (by omega)]; exact h.c1
  · rw [set_get _ _ (by omega)]; exact h.c2
  · rw [set_get _ _ (by omega)]; exact h.c3
  · rw [set_get _ _ (by omega)]; exact (h.fl j hj).1
  · rw [set_get _ _ (by omega)]; exact (h.fl j hj).2.1
  · rw [set_get _ _ (by omega)]; exact (h.fl j hj).2.2
  · rw [set_get _ _ (by omega)]; exact h.dg j hj
  · rw [set_get _ _ (by omega)]; exact h.mo
  · rw [set_got _ _ (by omega)]
  · rw [set_get _ _ (by omega)]; exact h.ke
  · rw [set_get _ _ (by omega)]; exact h.ev
theorem ob_ev (h : Ob cs P n Xt Xl Xw fl dg B K size ev) (v : Nat) : Ob (cs.setIfInBounds 263 (.int .i64 (v : Int))) P n Xt Xl Xw fl dg B K size v := by
  have hs := h.sz
  refine ⟨by simpa using h.sz, ?_, ?_, ?_, ?_, fun j hj => ⟨?_, ?_, ?_⟩, fun j hj => ?_, ?_, ?_, ?_, ?_⟩
  · rw [set_get _ _ (by omega)]; exact h.c0
  · rw [set_get _ _ (by omega)]; exact h.c1
  · rw [set_get _ _ (by omega)]; exact h.c2
  · rw [set_get _ _ (by omega)]; exact h.c3
  · rw [set_get _ _ (by omega)]; exact (h.fl j hj).1
  · rw [set_get _ _ (by omega)]; exact (h.fl j hj).2.1
  · rw [set_get _ _ (by omega)]; exact (h.fl j hj).2.2
  · rw [set_get _ _ (by omega)]; exact h.dg j hj
  · rw [set_get _ _ (by omega)]; exact h.mo
  · rw [set_get _ _ (by omega)]; exact h.si
  · rw [set_get _ _ (by omega)]; exact h.ke
  · rw [set_got _ _ (by omega)]
theorem ob_fl (h : Ob cs P n Xt Xl Xw fl dg B K size ev) {k : Nat} (hk : k < 64) (v : Stp) : Ob (((cs.setIfInBounds (4 + k * 3) (.int .u64 v.p)).setIfInBounds (4 + k * 3 + 1) (.int .u32 v.l)).setIfInBounds (4 + k * 3 + 2) (.int .u8 v.n)) P n Xt Xl Xw (updS fl k v) dg B K size ev := by
  have hs := h.sz
  refine ⟨by simpa using h.sz, ?_, ?_, ?_, ?_, fun j hj => ?_, fun j hj => ?_, ?_, ?_, ?_, ?_⟩
  · rw [set_get _ _ (by omega), set_get _ _ (by omega), set_get _ _ (by omega)]; exact h.c0
  · rw [set_get _ _ (by omega), set_get _ _ (by omega), set_get _ _ (by omega)]; exact h.c1
  · rw [set_get _ _ (by omega), set_get _ _ (by omega), set_get _ _ (by omega)]; exact h.c2
  · rw [set_get _ _ (by omega), set_get _ _ (by omega), set_get _ _ (by omega)]; exact h.c3
  · by_cases e : j = k
    · subst e
      simp only [updS, if_true]
      refine ⟨?_, ?_, ?_⟩
      · rw [set_get _ _ (by omega), set_get _ _ (by omega), set_got _ _ (by omega)]
      · rw [set_get _ _ (by omega), set_got _ _ (by simp; omega)]
      · rw [set_got _ _ (by simp; omega)]
    · simp only [updS, if_neg e]
      refine ⟨?_, ?_, ?_⟩
      · rw [set_get _ _ (by omega), set_get _ _ (by omega), set_get _ _ (by omega)]; exact (h.fl j hj).1
      · rw [set_get _ _ (by omega), set_get _ _ (by omega), set_get _ _ (by omega)]; exact (h.fl j hj).2.1
      · rw [set_get _ _ (by omega), set_get _ _ (by omega), set_get _ _ (by omega)]; exact (h.fl j hj).2.2
  · rw [set_get _ _ (by omega), set_get _ _ (by omega), set_get _ _ (by omega)]; exact h.dg j hj
  · rw [set_get _ _ (by omega), set_get _ _ (by omega), set_get _ _ (by omega)]; exact h.mo
  · rw [set_get _ _ (by omega), set_get _ _ (by omega), set_get _ _ (by omega)]; exact h.si
  · rw [set_get _ _ (by omega), set_get _ _ (by omega), set_get _ _ (by omega)]; exact h.ke
  · rw [set_get _ _ (by omega), set_get _ _ (by omega), set_get _ _ (by omega)]; exact h.ev
end
structure Sm (w : World) (F : Nat → Prop) (X : Nat) (c : Cf) (pl : Nat → R) (l : List Nat) (f : ByteArray → Option Int) (M : List It) (fl : Nat → Stp) (dg : Nat → Nat) (size ev ct : Nat) (a : Ad) : Prop where
  obj : ∃ cs, At w X cs 76 ∧ Ob cs a.P c.n a.Xt a.Xl a.Xw fl dg c.B c.K size ev
  row : RowR w a.P c.n pl
  tab : Slo.Good w a.Xt a.Rt a.m c.n a.T
  mp : ∀ k, Slo.mp a.m a.T k = f k
  cnt : Slo.cnt a.T a.m = ct
  lst : Lru.Good w a.Xl a.Rl c.n l
  whl : Whl.Good w a.Fw a.Xw M
  fX : F X
  fP : F a.P
  fXt : F a.Xt
  fRt : F a.Rt
  fXl : F a.Xl
  fRl : F a.Rl
  fw : ∀ k, a.Fw k → F k
  nX : ¬ a.Fw X
  nP : ¬ a.Fw a.P
  nXt : ¬ a.Fw a.Xt
  nRt : ¬ a.Fw a.Rt
  nXl : ¬ a.Fw a.Xl
  nRl : ¬ a.Fw a.Rl
  low : ∀ k, F k → k < w.heap.size
theorem slo_block {w w' : World} {X R m most : Nat} {L : Slo.Tb} (g : Slo.Good w X R m most L) (e1 : w'.heap[X]? = w.heap[X]?) (e2 : w'.heap[R]? = w.heap[R]?) : Slo.Good w' X R m most L := ⟨⟨e1.trans g.tab.1, Slo.row_block g.tab.2 e2⟩, g.ok, g.some, g.fit, g.full, g.low, g.small⟩
theorem lru_block {w w' : World} {X R n : Nat} {l : List Nat} (g : Lru.Good w X R n l) (e1 : w'.heap[X]? = w.heap[X]?) (e2 : w'.heap[R]? = w.heap[R]?) : Lru.Good w' X R n l := by
  obtain ⟨h1, h2, A, B, ⟨h3, h4⟩, h5⟩ := g
  obtain ⟨cs, h6, h7⟩ := h4
  exact ⟨h1, h2, A, B, ⟨e1.trans h3, cs, e2.trans h6, h7⟩, h5⟩
theorem whl_block {w w' : World} {F : Nat → Prop} {X : Nat} {M : List It} (g : Whl.Good w F X M) (e : ∀ k, F k → w'.heap[k]? = w.heap[k]?) (hs : w.heap.size ≤ w'.heap.size) : Whl.Good w' F X M := by
  obtain ⟨m, V, L, g', h1, h2⟩ := g
  exact ⟨m, V, L, g', Whl.gl_same h1 e hs, h2⟩
section
variable {w w' : World} {F : Nat → Prop} {X : Nat} {c : Cf} {pl : Nat → R} {l : List Nat} {f : ByteArray → Option Int} {M : List It} {fl : Nat → Stp} {dg : Nat → Nat} {size ev ct : Nat} {a : Ad}
/- The blocks' kinds keep them apart. -/
structure Ats (w : World) (X : Nat) (a : Ad) : Prop where
  x : ∃ cs, At w X cs 76
  p : ∃ cs, At w a.P cs 42
  xt : ∃ cs, At w a.Xt cs 108
  rt : ∃ cs, At w a.Rt cs 105
  xl : ∃ cs, At w a.Xl cs 137
  rl : ∃ cs, At w a.Rl cs 135
theorem sm_ats (h : Sm w F X c pl l f M fl dg size ev ct a) : Ats w X a := by
  obtain ⟨cs, h1, _⟩ := h.obj
  obtain ⟨ds, h2, _⟩ := h.row
  obtain ⟨es, h4, _⟩ := h.tab.tab.2
  obtain ⟨_, _, A, B, ⟨h5, es2, h6, _⟩, _⟩ := h.lst
  exact ⟨⟨cs, h1⟩, ⟨ds, h2⟩, ⟨_, h.tab.tab.1⟩, ⟨es, h4⟩, ⟨_, h5⟩, ⟨es2, h6⟩⟩
theorem ne_of {T U Y Z : Nat} (h : ∃ cs, At w Y cs T) (k : ∃ cs, At w Z cs U) (hTU : T ≠ U) : Y ≠ Z := by
  obtain ⟨cs, h⟩ := h
  obtain ⟨ds, k⟩ := k
  exact at_ne h k hTU
theorem sm_same (h : Sm w F X c pl l f M fl dg size ev ct a) (e : ∀ k, F k → w'.heap[k]? = w.heap[k]?) (hs : w.heap.size ≤ w'.heap.size) : Sm w' F X c pl l f M fl dg size ev ct a := by
  obtain ⟨cs, h1, h2⟩ := h.obj
  exact ⟨⟨cs, (e X h.fX).trans h1, h2⟩, rowR_block h.row (e _ h.fP), slo_block h.tab (e _ h.fXt) (e _ h.fRt), h.mp, h.cnt, lru_block h.lst (e _ h.fXl) (e _ h.fRl), whl_block h.whl (fun k hk => e k (h.fw k hk)) hs, h.fX, h.fP, h.fXt, h.fRt, h.fXl, h.fRl, h.fw, h.nX, h.nP, h.nXt, h.nRt, h.nXl, h.nRl, fun k hk => Nat.lt_of_lt_of_le (h.low k hk) hs⟩
theorem sm_kept (h : Sm w F X c pl l f M fl dg size ev ct a) (k : Kept w w') : Sm w' F X c pl l f M fl dg size ev ct a := sm_same h (fun j hj => kept_block k (h.low j hj)) k.2
theorem sm_tn {G : Nat → Prop} (h : Sm w F X c pl l f M fl dg size ev ct a) (t : Tn G w w') (hG : ∀ k, F k → ¬ G k) : Sm w' F X c pl l f M fl dg size ev ct a := sm_same h (fun j hj => t.2.2.2 j (h.low j hj) (hG j hj)) t.2.2.1
/- The object stored in. -/
theorem sm_obj {fl' : Nat → Stp} {dg' : Nat → Nat} {size' ev' : Nat} (h : Sm w F X c pl l f M fl dg size ev ct a) (e : ∀ k, k ≠ X → w'.heap[k]? = w.heap[k]?) (hs : w.heap.size ≤ w'.heap.size) (ho : ∃ cs, At w' X cs 76 ∧ Ob cs a.P c.n a.Xt a.Xl a.Xw fl' dg' c.B c.K size' ev') : Sm w' F X c pl l f M fl' dg' size' ev' ct a := by
  have t := sm_ats h
  exact ⟨ho, rowR_block h.row (e _ (ne_of t.p t.x (by decide))), slo_block h.tab (e _ (ne_of t.xt t.x (by decide))) (e _ (ne_of t.rt t.x (by decide))), h.mp, h.cnt, lru_block h.lst (e _ (ne_of t.xl t.x (by decide))) (e _ (ne_of t.rl t.x (by decide))), whl_block h.whl (fun k hk => e k (fun q => h.nX (q ▸ hk))) hs, h.fX, h.fP, h.fXt, h.fRt, h.fXl, h.fRl, h.fw, h.nX, h.nP, h.nXt, h.nRt, h.nXl, h.nRl, fun k hk => Nat.lt_of_lt_of_le (h.low k hk) hs⟩
theorem sm_dg (h : Sm w F X c pl l f M fl dg size ev ct a) {k : Nat} (hk : k < 64) (v : Nat) : Sm (w.setCell ⟨X, 196 + k, none⟩ (.int .u64 (v : Int))) F X c pl l f M fl (updN dg k v) size ev ct a := by
  obtain ⟨cs, h1, h2⟩ := h.obj
  exact sm_obj h (fun j hj => Below.heap_setCell _ _ _ _ hj) (by simp [World.setCell]) ⟨_, at_set h1 _ _, ob_dg h2 hk v⟩
theorem sm_si (h : Sm w F X c pl l f M fl dg size ev ct a) (v : Nat) : Sm (w.setCell ⟨X, 261, none⟩ (.int .i64 (v : Int))) F X c pl l f M fl dg v ev ct a := by
  obtain ⟨cs, h1, h2⟩ := h.obj
  exact sm_obj h (fun j hj => Below.heap_setCell _ _ _ _ hj) (by simp [World.setCell]) ⟨_, at_set h1 _ _, ob_si h2 v⟩
theorem sm_ev (h : Sm w F X c pl l f M fl dg size ev ct a) (v : Nat) : Sm (w.setCell ⟨X, 263, none⟩ (.int .i64 (v : Int))) F X c pl l f M fl dg size v ct a := by
  obtain ⟨cs, h1, h2⟩ := h.obj
  exact sm_obj h (fun j hj => Below.heap_setCell _ _ _ _ hj) (by simp [World.setCell]) ⟨_, at_set h1 _ _, ob_ev h2 v⟩
theorem sm_fl (h : Sm w F X c pl l f M fl dg size ev ct a) {k : Nat} (hk : k < 64) (v : Stp) : Sm (((w.setCell ⟨X, 4 + k * 3, none⟩ (.int .u64 v.p)).setCell ⟨X, 4 + k * 3 + 1, none⟩ (.int .u32 v.l)).setCell ⟨X, 4 + k * 3 + 2, none⟩ (.int .u8 v.n)) F X c pl l f M (updS fl k v) dg size ev ct a := by
  obtain ⟨cs, h1, h2⟩ := h.obj
  exact sm_obj h (fun j hj => (Below.heap_setCell _ _ _ _ hj).trans ((Below.heap_setCell _ _ _ _ hj).trans (Below.heap_setCell _ _ _ _ hj))) (by simp [World.setCell]) ⟨_, at_set (at_set (at_set h1 _ _) _ _) _ _, ob_fl h2 hk v⟩
/- A place stored in. -/
theorem sm_pl (h : Sm w F X c pl l f M fl dg size ev ct a) {i : Nat} (hi : i < c.n) (r : R) : Sm (set8o w a.P (i * 8) (.string r.key) (.int .u64 r.s.p) (.int .u32 r.s.l) (.int .u8 r.s.n) (.int .u8 r.kind) (.int .u32 r.flags) (.int .u64 r.exp) (.string r.body)) F X c (updR pl i r) l f M fl dg size ev ct a := by
  have t := sm_ats h
  obtain ⟨cs, h1, h2⟩ := h.obj
  have e : ∀ k, k ≠ a.P → (set8o w a.P (i * 8) (.string r.key) (.int .u64 r.s.p) (.int .u32 r.s.l) (.int .u8 r.s.n) (.int .u8 r.kind) (.int .u32 r.flags) (.int .u64 r.exp) (.string r.body)).heap[k]? = w.heap[k]? := fun k hk => set8o_heap w a.P _ _ _ _ _ _ _ _ _ hk
  have hs : w.heap.size ≤ (set8o w a.P (i * 8) (.string r.key) (.int .u64 r.s.p) (.int .u32 r.s.l) (.int .u8 r.s.n) (.int .u8 r.kind) (.int .u32 r.flags) (.int .u64 r.exp) (.string r.body)).heap.size := Nat.le_of_eq (set8o_size w a.P _ _ _ _ _ _ _ _ _).symm
  exact ⟨⟨cs, (e X (ne_of t.x t.p (by decide))).trans h1, h2⟩, rowR_set h.row hi r, slo_block h.tab (e _ (ne_of t.xt t.p (by decide))) (e _ (ne_of t.rt t.p (by decide))), h.mp, h.cnt, lru_block h.lst (e _ (ne_of t.xl t.p (by decide))) (e _ (ne_of t.rl t.p (by decide))), whl_block h.whl (fun k hk => e k (fun q => h.nP (q ▸ hk))) hs, h.fX, h.fP, h.fXt, h.fRt, h.fXl, h.fRl, h.fw, h.nX, h.nP, h.nXt, h.nRt, h.nXl, h.nRl, fun k hk => Nat.lt_of_lt_of_le (h.low k hk) hs⟩
/- The table, the list, the wheel turned. -/
theorem sm_tab {f' : ByteArray → Option Int} {ct' : Nat} {T' : Slo.Tb} (h : Sm w F X c pl l f M fl dg size ev ct a) (t : Slo.Turns a.Xt a.Rt w w') (g : Slo.Good w' a.Xt a.Rt a.m c.n T') (hf : ∀ k, Slo.mp a.m T' k = f' k) (hc : Slo.cnt T' a.m = ct') : Sm w' F X c pl l f' M fl dg size ev ct' { a with T := T' } := by
  have q := sm_ats h
  obtain ⟨cs, h1, h2⟩ := h.obj
  have e : ∀ k, F k → k ≠ a.Xt → k ≠ a.Rt → w'.heap[k]? = w.heap[k]? := fun k hk => t.2.2.2 k (h.low k hk)
  exact ⟨⟨cs, (e X h.fX (ne_of q.x q.xt (by decide)) (ne_of q.x q.rt (by decide))).trans h1, h2⟩, rowR_block h.row (e _ h.fP (ne_of q.p q.xt (by decide)) (ne_of q.p q.rt (by decide))), g, hf, hc, lru_block h.lst (e _ h.fXl (ne_of q.xl q.xt (by decide)) (ne_of q.xl q.rt (by decide))) (e _ h.fRl (ne_of q.rl q.xt (by decide)) (ne_of q.rl q.rt (by decide))), whl_block h.whl (fun k hk => e k (h.fw k hk) (fun z => h.nXt (z ▸ hk)) (fun z => h.nRt (z ▸ hk))) t.2.2.1, h.fX, h.fP, h.fXt, h.fRt, h.fXl, h.fRl, h.fw, h.nX, h.nP, h.nXt, h.nRt, h.nXl, h.nRl, fun k hk => Nat.lt_of_lt_of_le (h.low k hk) t.2.2.1⟩
theorem sm_lst {l' : List Nat} (h : Sm w F X c pl l f M fl dg size ev ct a) (t : Turn a.Rl w w') (g : Lru.Good w' a.Xl a.Rl c.n l') : Sm w' F X c pl l' f M fl dg size ev ct a := by
  have q := sm_ats h
  obtain ⟨cs, h1, h2⟩ := h.obj
  have e : ∀ k, F k → k ≠ a.Rl → w'.heap[k]? = w.heap[k]? := fun k hk => t.2.2.2 k (h.low k hk)
  exact ⟨⟨cs, (e X h.fX (ne_of q.x q.rl (by decide))).trans h1, h2⟩, rowR_block h.row (e _ h.fP (ne_of q.p q.rl (by decide))), slo_block h.tab (e _ h.fXt (ne_of q.xt q.rl (by decide))) (e _ h.fRt (ne_of q.rt q.rl (by decide))), h.mp, h.cnt, g, whl_block h.whl (fun k hk => e k (h.fw k hk) (fun z => h.nRl (z ▸ hk))) t.2.2.1, h.fX, h.fP, h.fXt, h.fRt, h.fXl, h.fRl, h.fw, h.nX, h.nP, h.nXt, h.nRt, h.nXl, h.nRl, fun k hk => Nat.lt_of_lt_of_le (h.low k hk) t.2.2.1⟩
theorem sm_whl {M' : List It} {G : Nat → Prop} (h : Sm w F X c pl l f M fl dg size ev ct a) (t : Whl.Stp a.Fw G w w') (g : Whl.Good w' G a.Xw M') : Sm w' (fun k => F k ∨ G k) X c pl l f M' fl dg size ev ct { a with Fw := G } := by
  obtain ⟨cs, h1, h2⟩ := h.obj
  have e : ∀ k, F k → ¬ a.Fw k → w'.heap[k]? = w.heap[k]? := fun k hk hn => t.1.2.2.2 k (h.low k hk) hn
  have n : ∀ k, F k → ¬ a.Fw k → ¬ G k := fun k hk hn hg => by
    rcases t.2 k hg with z | z
    · exact hn z
    · have := h.low k hk; omega
  exact ⟨⟨cs, (e X h.fX h.nX).trans h1, h2⟩, rowR_block h.row (e _ h.fP h.nP), slo_block h.tab (e _ h.fXt h.nXt) (e _ h.fRt h.nRt), h.mp, h.cnt, lru_block h.lst (e _ h.fXl h.nXl) (e _ h.fRl h.nRl), g, .inl h.fX, .inl h.fP, .inl h.fXt, .inl h.fRt, .inl h.fXl, .inl h.fRl, fun k hk => .inr hk, n _ h.fX h.nX, n _ h.fP h.nP, n _ h.fXt h.nXt, n _ h.fRt h.nRt, n _ h.fXl h.nXl, n _ h.fRl h.nRl, fun k hk => by
    rcases hk with hk | hk
    · exact Nat.lt_of_lt_of_le (h.low k hk) t.1.2.2.1
    · exact Whl.good_low g k hk⟩
theorem sm_whl' {M' : List It} (h : Sm w F X c pl l f M fl dg size ev ct a) (t : Tn a.Fw w w') (g : Whl.Good w' a.Fw a.Xw M') : Sm w' F X c pl l f M' fl dg size ev ct a := by
  obtain ⟨cs, h1, h2⟩ := h.obj
  have e : ∀ k, F k → ¬ a.Fw k → w'.heap[k]? = w.heap[k]? := fun k hk hn => t.2.2.2 k (h.low k hk) hn
  exact ⟨⟨cs, (e X h.fX h.nX).trans h1, h2⟩, rowR_block h.row (e _ h.fP h.nP), slo_block h.tab (e _ h.fXt h.nXt) (e _ h.fRt h.nRt), h.mp, h.cnt, lru_block h.lst (e _ h.fXl h.nXl) (e _ h.fRl h.nRl), g, h.fX, h.fP, h.fXt, h.fRt, h.fXl, h.fRl, h.fw, h.nX, h.nP, h.nXt, h.nRt, h.nXl, h.nRl, fun k hk => Nat.lt_of_lt_of_le (h.low k hk) t.2.2.1⟩
/- What is read. -/
theorem sm_cells (h : Sm w F X c pl l f M fl dg size ev ct a) : (w.cell? ⟨X, 0, none⟩ = some (.slice (some ⟨a.P, 0, none⟩) c.n c.n) ∧ w.cell? ⟨X, 1, none⟩ = some (.pointer (some ⟨a.Xt, 0, none⟩)) ∧ w.cell? ⟨X, 2, none⟩ = some (.pointer (some ⟨a.Xl, 0, none⟩)) ∧ w.cell? ⟨X, 3, none⟩ = some (.pointer (some ⟨a.Xw, 0, none⟩)) ∧ w.cell? ⟨X, 260, none⟩ = some (.int .i64 (c.B : Int)) ∧ w.cell? ⟨X, 261, none⟩ = some (.int .i64 (size : Int)) ∧ w.cell? ⟨X, 262, none⟩ = some (.int .u64 (c.K : Int)) ∧ w.cell? ⟨X, 263, none⟩ = some (.int .i64 (ev : Int))) ∧ ∀ j, w.frozen? ⟨X, j, none⟩ = false := by
  obtain ⟨cs, h1, h2⟩ := h.obj
  exact ⟨⟨(at_cell h1 _).trans h2.c0, (at_cell h1 _).trans h2.c1, (at_cell h1 _).trans h2.c2, (at_cell h1 _).trans h2.c3, (at_cell h1 _).trans h2.mo, (at_cell h1 _).trans h2.si, (at_cell h1 _).trans h2.ke, (at_cell h1 _).trans h2.ev⟩, at_frozen h1⟩
theorem sm_floor (h : Sm w F X c pl l f M fl dg size ev ct a) {k : Nat} (hk : k < 64) : w.cell? ⟨X, 4 + k * 3, none⟩ = some (.int .u64 (fl k).p) ∧ w.cell? ⟨X, 4 + k * 3 + 1, none⟩ = some (.int .u32 (fl k).l) ∧ w.cell? ⟨X, 4 + k * 3 + 2, none⟩ = some (.int .u8 (fl k).n) := by
  obtain ⟨cs, h1, h2⟩ := h.obj
  obtain ⟨g0, g1, g2⟩ := h2.fl k hk
  exact ⟨(at_cell h1 _).trans g0, (at_cell h1 _).trans g1, (at_cell h1 _).trans g2⟩
theorem sm_digest (h : Sm w F X c pl l f M fl dg size ev ct a) {k : Nat} (hk : k < 64) : w.cell? ⟨X, 196 + k, none⟩ = some (.int .u64 (dg k : Int)) := by
  obtain ⟨cs, h1, h2⟩ := h.obj
  exact (at_cell h1 _).trans (h2.dg k hk)
end
/- A store, its places known. -/
def StI (w : World) (F : Nat → Prop) (X : Nat) (c : Cf) (pl : Nat → R) (l : List Nat) (fl : Nat → Stp) (ev : Nat) (pend : Nat → Prop) : Prop :=
  ∃ f M a, Sm w F X c pl l f M fl (fun k => digL k (l.map pl)) (sizeL (l.map pl)) ev l.length a ∧ Coh c pl l f M pend
def St (w : World) (F : Nat → Prop) (X : Nat) (c : Cf) (s : MS) : Prop := ∃ pl l, StI w F X c pl l s.fl s.ev (fun _ => False) ∧ s.L = l.map pl
section
variable {w w' : World} {F : Nat → Prop} {X : Nat} {c : Cf} {pl : Nat → R} {l : List Nat} {fl : Nat → Stp} {ev : Nat} {pend : Nat → Prop} {s : MS}
theorem sti_kept (h : StI w F X c pl l fl ev pend) (k : Kept w w') : StI w' F X c pl l fl ev pend := by
  obtain ⟨f, M, a, h1, h2⟩ := h
  exact ⟨f, M, a, sm_kept h1 k, h2⟩
theorem sti_tn {G : Nat → Prop} (h : StI w F X c pl l fl ev pend) (t : Tn G w w') (hG : ∀ k, F k → ¬ G k) : StI w' F X c pl l fl ev pend := by
  obtain ⟨f, M, a, h1, h2⟩ := h
  exact ⟨f, M, a, sm_tn h1 t hG, h2⟩
theorem st_kept (h : St w F X c s) (k : Kept w w') : St w' F X c s := by
  obtain ⟨pl, l, h1, h2⟩ := h
  exact ⟨pl, l, sti_kept h1 k, h2⟩
theorem st_tn {G : Nat → Prop} (h : St w F X c s) (t : Tn G w w') (hG : ∀ k, F k → ¬ G k) : St w' F X c s := by
  obtain ⟨pl, l, h1, h2⟩ := h
  exact ⟨pl, l, sti_tn h1 t hG, h2⟩
theorem sti_low (h : StI w F X c pl l fl ev pend) : ∀ k, F k → k < w.heap.size := by
  obtain ⟨f, M, a, h1, h2⟩ := h
  exact h1.low
theorem st_low (h : St w F X c s) : ∀ k, F k → k < w.heap.size := by
  obtain ⟨pl, l, h1, h2⟩ := h
  exact sti_low h1
end
end Go.Proofs.YthgbdaladngpdaaGreat

/- The contracts of the store's small functions: a key's range, a record's length, what is old when, what is taken, what is above its floor; Len, Size, Evicted, Floor, Digest; the same of a nil store. Texts have at most as many bytes as a text may have. -/
namespace Go.Proofs.YthgbdaladngpdaaGreat
open Go.ChangeShapes Go.WideShapes Go.ChangeAt Go.RowKit
open Go.Proofs.YthgbdaladngpdaaGreat.Whl (Tn tn_kept tn_refl tn_trans tn_set tn_alloc at_tn kept_tn It)
set_option linter.unusedVariables false
set_option linter.unusedSimpArgs false
set_option maxRecDepth 100000

theorem idx34 (X k : Nat) (h : (k : Int) < 64) (w : World) : (Instr.indexAt 34 (.pointer (some ⟨X, 4, none⟩)) (.int .i64 (k : Int))).run Tryz.prog w = .ok (.pointer (some ⟨X, 4 + k * 3, none⟩)) w := by go_simp
theorem idx74 (X k : Nat) (h : (k : Int) < 64) (w : World) : (Instr.indexAt 74 (.pointer (some ⟨X, 196, none⟩)) (.int .i64 (k : Int))).run Tryz.prog w = .ok (.pointer (some ⟨X, 196 + k, none⟩)) w := by go_simp
theorem shr58 (t : Int) (h : (Lit.int .u64 t).wf = true) : wrap64 (t / 288230376151711744) = t / 288230376151711744 := by
  have := bounds_u64 h
  unfold wrap64; omega
theorem range_any (s : ByteArray) (hs : s.size ≤ maxLen) (w : World) :
    Calls Tryz.prog 56 #[.string s] w fun e w' => e = .returned (.int .i64 (rg s : Int)) ∧ w' = w := by
  have ht := wf_textI s.data.toList s.size
  rw [← rg_int]
  go_enter Tryz.func56, Tryz.ntmps56
  go_wp2_with fail
  refine (text_any s hs _).mono ?_
  rintro e w' ⟨rfl, rfl⟩
  go_wp2_with fail
  go_ret
  exact ⟨ret_int (shr58 _ ht), rfl⟩
theorem length_any (r : R) (hk : r.key.size ≤ 1000) (hb : r.body.size ≤ 3000) (w : World) :
    Calls Tryz.prog 41 #[.agg #[.string r.key, .int .u64 r.s.p, .int .u32 r.s.l, .int .u8 r.s.n, .int .u8 r.kind, .int .u32 r.flags, .int .u64 r.exp, .string r.body]] w fun e w' => e = .returned (.int .i64 (lenR r : Int)) ∧ Kept w w' := by
  have HE : Hid ((r.key.size : Int) + (r.body.size : Int) = (lenR r : Int)) := by
    show _ = _
    unfold lenR; omega
  have HK := hid (kept_alloc (kept_refl w) (.cells #[.string r.key, .int .u64 r.s.p, .int .u32 r.s.l, .int .u8 r.s.n, .int .u8 r.kind, .int .u32 r.flags, .int .u64 r.exp, .string r.body] 42))
  go_enter Tryz.func41, Tryz.ntmps41
  go_wp2_with fail
  go_ret
  exact ⟨ret_int HE.out, HK.out⟩
theorem zero33 (w : World) : (zeroValue 33).run Tryz.prog w = .ok (.agg #[.int .u64 0, .int .u32 0, .int .u8 0]) w := by kernel_rfl
theorem res1s {fn : Func} {p : Tmp} (h : fn.results = #[.cell p 33]) (tmps : Array Value) {w : World} {X T : Nat} {v0 v1 v2 : Value} (hp : tmps.getD p undef = .pointer (some ⟨X, 0, none⟩)) (hA : At w X #[v0, v1, v2] T) :
    (results fn tmps).run Tryz.prog w = .ok (.agg #[v0, v1, v2]) w := by
  obtain ⟨c0, c1, c2, -⟩ := at_cells3 hA
  have hp' : tmps[p]?.getD undef = .pointer (some ⟨X, 0, none⟩) := by simpa using hp
  simp [results, h, go_sem, hp', c0, c1, c2]
theorem upTo_any (n m : Int) (w : World) : Calls Tryz.prog 33 #[.int .i64 n, .int .i64 m] w fun e w' => e = .returned (.bool (decide (1 ≤ n) && decide (n ≤ m))) ∧ w' = w := by
  by_cases h : 1 ≤ n
  · have HE : Hid (decide (n ≤ m) = (decide (1 ≤ n) && decide (n ≤ m))) := by show _ = _; simp [h]
    go_enter Tryz.func33, Tryz.ntmps33
    go_wp2_with fail
    go_ret
    exact ⟨ret_bool HE.out, rfl⟩
  · have HE : Hid (false = (decide (1 ≤ n) && decide (n ≤ m))) := by show _ = _; simp [h]
    go_enter Tryz.func33, Tryz.ntmps33
    go_wp2_with fail
    go_ret
    exact ⟨ret_bool HE.out, rfl⟩
theorem isRange_any (k : Int) (w : World) : Calls Tryz.prog 53 #[.int .i64 k] w fun e w' => e = .returned (.bool (decide (0 ≤ k) && decide (k < 64))) ∧ w' = w := by
  by_cases h : 0 ≤ k
  · have HE : Hid (decide (k < 64) = (decide (0 ≤ k) && decide (k < 64))) := by show _ = _; simp [h]
    go_enter Tryz.func53, Tryz.ntmps53
    go_wp2_with fail
    go_ret
    exact ⟨ret_bool HE.out, rfl⟩
  · have HE : Hid (false = (decide (0 ≤ k) && decide (k < 64))) := by show _ = _; simp [h]
    go_enter Tryz.func53, Tryz.ntmps53
    go_wp2_with fail
    go_ret
    exact ⟨ret_bool HE.out, rfl⟩
section
variable {F : Nat → Prop} {X : Nat} {c : Cf} {pl : Nat → R} {l : List Nat} {f : ByteArray → Option Int} {M : List It} {fl : Nat → Stp} {dg : Nat → Nat} {size ev ct : Nat} {a : Ad}
theorem oldAt_any (hc : c.may) (r : R) (h0 : 0 ≤ r.s.p) (h1 : r.s.p ≤ 281474976710655) (w : World) (h : Sm w F X c pl l f M fl dg size ev ct a) :
    Calls Tryz.prog 37 #[.pointer (some ⟨X, 0, none⟩), .agg #[.string r.key, .int .u64 r.s.p, .int .u32 r.s.l, .int .u8 r.s.n, .int .u8 r.kind, .int .u32 r.flags, .int .u64 r.exp, .string r.body]] w fun e w' => e = .returned (.int .u64 (r.s.p + (c.K : Int))) ∧ Kept w w' := by
  have hK := hc.2.2.2.2.2
  have HK := hid (kept_alloc (kept_refl w) (.cells #[.string r.key, .int .u64 r.s.p, .int .u32 r.s.l, .int .u8 r.s.n, .int .u8 r.kind, .int .u32 r.flags, .int .u64 r.exp, .string r.body] 42))
  obtain ⟨⟨_, _, _, _, _, _, c7, _⟩, _⟩ := sm_cells (sm_kept h HK.out)
  obtain ⟨d0, d1, d2, d3, d4, d5, d6, d7⟩ := at_cells8' (at_new w #[.string r.key, .int .u64 r.s.p, .int .u32 r.s.l, .int .u8 r.s.n, .int .u8 r.kind, .int .u32 r.flags, .int .u64 r.exp, .string r.body] 42)
  clear h hc
  generalize c.K = K at *
  go_enter Tryz.func37, Tryz.ntmps37
  go_wp2_with fail
  generalize w.alloc (.cells #[.string r.key, .int .u64 r.s.p, .int .u32 r.s.l, .int .u8 r.s.n, .int .u8 r.kind, .int .u32 r.flags, .int .u64 r.exp, .string r.body] 42) = w1 at *
  generalize w.heap.size = Y at *
  go_quiet (fail)
  go_wp2_with fail
  go_ret
  exact ⟨rfl, HK.out⟩
theorem taken_any (i : Nat) (hi : i < c.n) (hn : c.n ≤ 1024) (w : World) (h : Sm w F X c pl l f M fl dg size ev ct a) :
    Calls Tryz.prog 55 #[.pointer (some ⟨X, 0, none⟩), .int .i64 (i : Int)] w fun e w' => e = .returned (.bool (decide ((pl i).kind ≠ 0))) ∧ w' = w := by
  obtain ⟨⟨c0, _⟩, _⟩ := sm_cells h
  obtain ⟨⟨_, _, _, _, r4, _⟩, _⟩ := rowR_cells h.row hi
  have HE : Hid (((pl i).kind != 0) = decide ((pl i).kind ≠ 0)) := by
    show _ = _
    by_cases e : (pl i).kind = 0
    · rw [e]; rfl
    · simp [e]
  clear h
  generalize (pl i).kind = k at *
  generalize c.n = n at *
  go_enter Tryz.func55, Tryz.ntmps55
  go_wp2_with fail
  go_ret
  exact ⟨ret_bool HE.out, rfl⟩
theorem slen_any (w : World) (h : Sm w F X c pl l f M fl dg size ev ct a) :
    Calls Tryz.prog 22 #[.pointer (some ⟨X, 0, none⟩)] w fun e w' => e = .returned (.int .i64 (ct : Int)) ∧ w' = w := by
  obtain ⟨⟨_, c1, _⟩, _⟩ := sm_cells h
  have ht := h.tab.tab
  rw [h.cnt] at ht
  have hl := Slo.len_any w ht
  clear h ht
  go_enter Tryz.func22, Tryz.ntmps22
  go_wp2_with fail
  refine hl.mono ?_
  rintro e w' ⟨rfl, rfl⟩
  go_wp2_with fail
  go_ret
  exact ⟨rfl, rfl⟩
theorem ssize_any (w : World) (h : Sm w F X c pl l f M fl dg size ev ct a) :
    Calls Tryz.prog 23 #[.pointer (some ⟨X, 0, none⟩)] w fun e w' => e = .returned (.int .i64 (size : Int)) ∧ w' = w := by
  obtain ⟨⟨_, _, _, _, _, c5, _⟩, _⟩ := sm_cells h
  clear h
  go_enter Tryz.func23, Tryz.ntmps23
  go_wp2_with fail
  go_ret
  exact ⟨rfl, rfl⟩
theorem sev_any (w : World) (h : Sm w F X c pl l f M fl dg size ev ct a) :
    Calls Tryz.prog 25 #[.pointer (some ⟨X, 0, none⟩)] w fun e w' => e = .returned (.int .i64 (ev : Int)) ∧ w' = w := by
  obtain ⟨⟨_, _, _, _, _, _, _, c8⟩, _⟩ := sm_cells h
  clear h
  go_enter Tryz.func25, Tryz.ntmps25
  go_wp2_with fail
  go_ret
  exact ⟨rfl, rfl⟩
theorem above_any (r : R) (hk : r.key.size ≤ maxLen) (w : World) (h : Sm w F X c pl l f M fl dg size ev ct a) :
    Calls Tryz.prog 40 #[.pointer (some ⟨X, 0, none⟩), .agg #[.string r.key, .int .u64 r.s.p, .int .u32 r.s.l, .int .u8 r.s.n, .int .u8 r.kind, .int .u32 r.flags, .int .u64 r.exp, .string r.body]] w fun e w' => e = .returned (.bool (decide (cmp (fl (rg r.key)) r.s < 0))) ∧ Kept w w' := by
  have HK := hid (kept_alloc (kept_refl w) (.cells #[.string r.key, .int .u64 r.s.p, .int .u32 r.s.l, .int .u8 r.s.n, .int .u8 r.kind, .int .u32 r.flags, .int .u64 r.exp, .string r.body] 42))
  have HW := hid (sm_kept h HK.out)
  have HA := hid (at_new w #[.string r.key, .int .u64 r.s.p, .int .u32 r.s.l, .int .u8 r.s.n, .int .u8 r.kind, .int .u32 r.flags, .int .u64 r.exp, .string r.body] 42)
  have hRg := range_any r.key hk
  have hk64 := rg_lt r.key
  clear h
  go_enter Tryz.func40, Tryz.ntmps40
  go_wp2_with fail
  generalize w.alloc (.cells #[.string r.key, .int .u64 r.s.p, .int .u32 r.s.l, .int .u8 r.s.n, .int .u8 r.kind, .int .u32 r.flags, .int .u64 r.exp, .string r.body] 42) = w1 at *
  generalize w.heap.size = Y at *
  have HS : Hid (∀ u, Kept w1 u → (u.cell? ⟨X, 4 + rg r.key * 3, none⟩ = some (.int .u64 (fl (rg r.key)).p) ∧ u.cell? ⟨X, 4 + rg r.key * 3 + 1, none⟩ = some (.int .u32 (fl (rg r.key)).l) ∧ u.cell? ⟨X, 4 + rg r.key * 3 + 2, none⟩ = some (.int .u8 (fl (rg r.key)).n)) ∧ (u.cell? ⟨Y, 0, none⟩ = some (.string r.key) ∧ u.cell? ⟨Y, 1, none⟩ = some (.int .u64 r.s.p) ∧ u.cell? ⟨Y, 2, none⟩ = some (.int .u32 r.s.l) ∧ u.cell? ⟨Y, 3, none⟩ = some (.int .u8 r.s.n) ∧ u.cell? ⟨Y, 4, none⟩ = some (.int .u8 r.kind) ∧ u.cell? ⟨Y, 5, none⟩ = some (.int .u32 r.flags) ∧ u.cell? ⟨Y, 6, none⟩ = some (.int .u64 r.exp) ∧ u.cell? ⟨Y, 7, none⟩ = some (.string r.body))) := hid (fun u ku => ⟨sm_floor (sm_kept HW.out ku) hk64, at_cells8' (at_kept HA.out ku)⟩)
  obtain ⟨q, hq⟩ : ∃ q, fl (rg r.key) = q := ⟨_, rfl⟩
  have HQ := hid hq
  rw [hq] at HS
  clear hq
  generalize rg r.key = k at HS hRg hk64
  have hidx := idx34 X k (by omega)
  clear hk64
  have k0 : Kept w1 w1.drew := kept_refl w1
  clear HW HA
  refine wp_region_noPanic ?_
  refine wp_region_held_drew (S := (fun w' => (w'.cell? ⟨X, 4 + k * 3, none⟩ = some (.int .u64 q.p) ∧ w'.cell? ⟨X, 4 + k * 3 + 1, none⟩ = some (.int .u32 q.l) ∧ w'.cell? ⟨X, 4 + k * 3 + 2, none⟩ = some (.int .u8 q.n)) ∧ (w'.cell? ⟨Y, 0, none⟩ = some (.string r.key) ∧ w'.cell? ⟨Y, 1, none⟩ = some (.int .u64 r.s.p) ∧ w'.cell? ⟨Y, 2, none⟩ = some (.int .u32 r.s.l) ∧ w'.cell? ⟨Y, 3, none⟩ = some (.int .u8 r.s.n) ∧ w'.cell? ⟨Y, 4, none⟩ = some (.int .u8 r.kind) ∧ w'.cell? ⟨Y, 5, none⟩ = some (.int .u32 r.flags) ∧ w'.cell? ⟨Y, 6, none⟩ = some (.int .u64 r.exp) ∧ w'.cell? ⟨Y, 7, none⟩ = some (.string r.body)))) (by kernel_rfl) (HS.out _ (by assumption)) (fun hHeld => ?_)
  refine wpAnyH_take (i := 0) (v := .pointer (some ⟨X, 0, none⟩)) rfl (by kernel_rfl) (by kernel_rfl) (by kernel_rfl) (fun _ _ _ h => h) (Or.inl ⟨by rfl, fun w hSw => by (try dsimp only at hSw); go_simp⟩) (by assumption) ?_
  try simp only [List.getElem_toArray, List.getElem_cons_zero, List.getElem_cons_succ, Act.put, List.setIfInBounds_toArray, List.set_cons_zero, List.set_cons_succ]
  refine wpAnyH_take (i := 1) (v := .pointer (some ⟨Y, 0, none⟩)) rfl (by kernel_rfl) (by kernel_rfl) (by kernel_rfl) (fun _ _ _ h => h) (Or.inl ⟨by rfl, fun w hSw => by (try dsimp only at hSw); go_simp⟩) (by assumption) ?_
  try simp only [List.getElem_toArray, List.getElem_cons_zero, List.getElem_cons_succ, Act.put, List.setIfInBounds_toArray, List.set_cons_zero, List.set_cons_succ]
  refine wpAnyH_take (i := 2) (v := .string r.key) rfl (by kernel_rfl) (by kernel_rfl) (by kernel_rfl) (fun _ _ _ h => h) (Or.inl ⟨by rfl, fun w hSw => by (try dsimp only at hSw); go_simp⟩) (by assumption) ?_
  try simp only [List.getElem_toArray, List.getElem_cons_zero, List.getElem_cons_succ, Act.put, List.setIfInBounds_toArray, List.set_cons_zero, List.set_cons_succ]
  refine wpAnyH_take (i := 4) (v := .pointer (some ⟨X, 0, none⟩)) rfl (by kernel_rfl) (by kernel_rfl) (by kernel_rfl) (fun _ _ _ h => h) (Or.inl ⟨by rfl, fun w hSw => by (try dsimp only at hSw); go_simp⟩) (by assumption) ?_
  try simp only [List.getElem_toArray, List.getElem_cons_zero, List.getElem_cons_succ, Act.put, List.setIfInBounds_toArray, List.set_cons_zero, List.set_cons_succ]
  refine wpAnyH_take (i := 5) (v := .pointer (some ⟨X, 4, none⟩)) rfl (by kernel_rfl) (by kernel_rfl) (by kernel_rfl) (fun _ _ _ h => h) (Or.inl ⟨by rfl, fun w hSw => by (try dsimp only at hSw); go_simp⟩) (by assumption) ?_
  try simp only [List.getElem_toArray, List.getElem_cons_zero, List.getElem_cons_succ, Act.put, List.setIfInBounds_toArray, List.set_cons_zero, List.set_cons_succ]
  refine wpAnyH_take (i := 8) (v := .pointer (some ⟨Y, 1, none⟩)) rfl (by kernel_rfl) (by kernel_rfl) (by kernel_rfl) (fun _ _ _ h => h) (Or.inl ⟨by rfl, fun w hSw => by (try dsimp only at hSw); go_simp⟩) (by assumption) ?_
  try simp only [List.getElem_toArray, List.getElem_cons_zero, List.getElem_cons_succ, Act.put, List.setIfInBounds_toArray, List.set_cons_zero, List.set_cons_succ]
  refine wpAnyH_take (i := 9) (v := .agg #[.int .u64 r.s.p, .int .u32 r.s.l, .int .u8 r.s.n]) rfl (by kernel_rfl) (by kernel_rfl) (by kernel_rfl) (fun _ _ _ h => h) (Or.inl ⟨by rfl, fun w hSw => by (try dsimp only at hSw); go_simp⟩) (by assumption) ?_
  try simp only [List.getElem_toArray, List.getElem_cons_zero, List.getElem_cons_succ, Act.put, List.setIfInBounds_toArray, List.set_cons_zero, List.set_cons_succ]
  refine wpAnyH_ready (rs := [3]) (by kernel_rfl) (by simp) ?_
  refine AllReadyH.cons (i := 3) rfl (fun K hK => ?_) AllReadyH.nil
  go_simp
  refine (hRg _).mono ?_
  rintro e w3 ⟨rfl, rfl⟩
  clear hHeld
  show K _ _
  refine hK.out _ _ (HS.out _ (by assumption)) (fun hHeld => ?_)
  clear hK K
  try simp only [List.getElem_toArray, List.getElem_cons_zero, List.getElem_cons_succ, Act.put, List.setIfInBounds_toArray, List.set_cons_zero, List.set_cons_succ]
  refine wpAnyH_take (i := 6) (v := .pointer (some ⟨X, 4 + k * 3, none⟩)) rfl (by kernel_rfl) (by kernel_rfl) (by kernel_rfl) (fun _ _ _ h => h) (Or.inl ⟨by rfl, fun w hSw => by (try dsimp only at hSw); go_simp⟩) (by assumption) ?_
  try simp only [List.getElem_toArray, List.getElem_cons_zero, List.getElem_cons_succ, Act.put, List.setIfInBounds_toArray, List.set_cons_zero, List.set_cons_succ]
  refine wpAnyH_take (i := 7) (v := .agg #[.int .u64 q.p, .int .u32 q.l, .int .u8 q.n]) rfl (by kernel_rfl) (by kernel_rfl) (by kernel_rfl) (fun _ _ _ h => h) (Or.inl ⟨by rfl, fun w hSw => by (try dsimp only at hSw); go_simp⟩) (by assumption) ?_
  try simp only [List.getElem_toArray, List.getElem_cons_zero, List.getElem_cons_succ, Act.put, List.setIfInBounds_toArray, List.set_cons_zero, List.set_cons_succ]
  refine wpAnyH_ready (rs := [10]) (by kernel_rfl) (by simp) ?_
  refine AllReadyH.cons (i := 10) rfl (fun K hK => ?_) AllReadyH.nil
  go_simp
  refine (compare_any q r.s _).mono ?_
  rintro e w3 ⟨rfl, h3⟩
  replace k0 := kept_trans k0 h3
  clear h3
  clear hHeld
  show K _ _
  refine hK.out _ _ (HS.out _ (by assumption)) (fun hHeld => ?_)
  clear hK K
  try simp only [List.getElem_toArray, List.getElem_cons_zero, List.getElem_cons_succ, Act.put, List.setIfInBounds_toArray, List.set_cons_zero, List.set_cons_succ]
  refine wpAnyH_take (i := 11) (v := .bool (decide (cmp q r.s < 0))) rfl (by kernel_rfl) (by kernel_rfl) (by kernel_rfl) (fun _ _ _ h => h) (Or.inl ⟨by rfl, fun w hSw => by (try dsimp only at hSw); go_simp⟩) (by assumption) ?_
  try simp only [List.getElem_toArray, List.getElem_cons_zero, List.getElem_cons_succ, Act.put, List.setIfInBounds_toArray, List.set_cons_zero, List.set_cons_succ]
  refine wpAnyH_take (i := 12) (v := .bool (decide (cmp q r.s < 0))) rfl (by kernel_rfl) (by kernel_rfl) (by kernel_rfl) (fun _ _ _ h => h) (Or.inl ⟨by rfl, fun w hSw => by (try dsimp only at hSw); go_simp⟩) (by assumption) ?_
  try simp only [List.getElem_toArray, List.getElem_cons_zero, List.getElem_cons_succ, Act.put, List.setIfInBounds_toArray, List.set_cons_zero, List.set_cons_succ]
  refine wpAnyH_done (by kernel_rfl) ?_ _
  refine NoPanic.normal ?_
  clear hHeld
  have HK2 := hid (kept_trans HK.out k0)
  clear k0 HK HS
  go_wp2_with fail
  go_ret
  exact ⟨ret_bool (by rw [HQ.out]), HK2.out⟩
theorem sfloor_bad (k : Int) (hk : ¬ (0 ≤ k ∧ k < 64)) (w : World) : Calls Tryz.prog 26 #[.pointer (some ⟨X, 0, none⟩), .int .i64 k] w fun e w' => e = .returned (.agg #[.int .u64 0, .int .u32 0, .int .u8 0]) ∧ Kept w w' := by
  have hz := zero33
  have hR := isRange_any k
  have hd : (decide (0 ≤ k) && decide (k < 64)) = false := by
    by_cases h : 0 ≤ k
    · have : ¬ k < 64 := fun g => hk ⟨h, g⟩
      simp [this]
    · simp [h]
  rw [hd] at hR
  have HA := hid (at_new w #[.int .u64 0, .int .u32 0, .int .u8 0] 33)
  have HK := hid (kept_alloc (kept_refl w) (.cells #[.int .u64 0, .int .u32 0, .int .u8 0] 33))
  clear hd
  go_enter Tryz.func26, Tryz.ntmps26
  go_wp2_with fail
  generalize w.alloc (.cells #[.int .u64 0, .int .u32 0, .int .u8 0] 33) = w1 at *
  have hY : w.heap.size ≤ w.heap.size := Nat.le_refl _
  generalize hY0 : w.heap.size = Y at HA hY
  refine (hR _).mono ?_
  rintro e w2 ⟨rfl, rfl⟩
  obtain ⟨c0, c1, c2, cf⟩ := at_cells3 HA.out
  have HA2 := hid (at_set (at_set (at_set HA.out 0 (.int .u64 0)) 1 (.int .u32 0)) 2 (.int .u8 0))
  have HK2 := hid (kept_set (kept_set (kept_set HK.out (Nat.le_of_eq hY0) 0 (.int .u64 0)) (Nat.le_of_eq hY0) 1 (.int .u32 0)) (Nat.le_of_eq hY0) 2 (.int .u8 0))
  clear HA HK
  go_wp2_with fail
  exact bodyPost_ret (res1s Tryz.results26 _ rfl HA2.out) rfl ⟨rfl, HK2.out⟩
theorem sfloor_any (k : Nat) (hk : k < 64) (w : World) (h : Sm w F X c pl l f M fl dg size ev ct a) : Calls Tryz.prog 26 #[.pointer (some ⟨X, 0, none⟩), .int .i64 (k : Int)] w fun e w' => e = .returned (.agg #[.int .u64 (fl k).p, .int .u32 (fl k).l, .int .u8 (fl k).n]) ∧ Kept w w' := by
  have hz := zero33
  have hR := isRange_any (k : Int)
  have hd : (decide (0 ≤ (k : Int)) && decide ((k : Int) < 64)) = true := by simp; omega
  rw [hd] at hR
  have HA := hid (at_new w #[.int .u64 0, .int .u32 0, .int .u8 0] 33)
  have HK := hid (kept_alloc (kept_refl w) (.cells #[.int .u64 0, .int .u32 0, .int .u8 0] 33))
  have HW := hid (sm_kept h HK.out)
  have hk65 : ¬ (64 : Int) ≤ (k : Int) := by omega
  clear hd h
  go_enter Tryz.func26, Tryz.ntmps26
  go_wp2_with fail
  generalize w.alloc (.cells #[.int .u64 0, .int .u32 0, .int .u8 0] 33) = w1 at *
  have hY : w.heap.size ≤ w.heap.size := Nat.le_refl _
  generalize hY0 : w.heap.size = Y at HA hY
  refine (hR _).mono ?_
  rintro e w2 ⟨rfl, rfl⟩
  obtain ⟨c0, c1, c2, cf⟩ := at_cells3 HA.out
  obtain ⟨f0, f1, f2⟩ := sm_floor HW.out hk
  have HA2 := hid (at_set (at_set (at_set HA.out 0 (.int .u64 (fl k).p)) 1 (.int .u32 (fl k).l)) 2 (.int .u8 (fl k).n))
  have HK2 := hid (kept_set (kept_set (kept_set HK.out (Nat.le_of_eq hY0) 0 (.int .u64 (fl k).p)) (Nat.le_of_eq hY0) 1 (.int .u32 (fl k).l)) (Nat.le_of_eq hY0) 2 (.int .u8 (fl k).n))
  clear HA HK HW
  go_wp2_with fail
  exact bodyPost_ret (res1s Tryz.results26 _ rfl HA2.out) rfl ⟨rfl, HK2.out⟩
theorem sdig_bad (k : Int) (hk : ¬ (0 ≤ k ∧ k < 64)) (w : World) : Calls Tryz.prog 27 #[.pointer (some ⟨X, 0, none⟩), .int .i64 k] w fun e w' => e = .returned (.int .u64 0) ∧ w' = w := by
  have hR := isRange_any k
  have hd : (decide (0 ≤ k) && decide (k < 64)) = false := by
    by_cases h : 0 ≤ k
    · have : ¬ k < 64 := fun g => hk ⟨h, g⟩
      simp [this]
    · simp [h]
  rw [hd] at hR
  clear hd
  go_enter Tryz.func27, Tryz.ntmps27
  go_wp2_with fail
  refine (hR _).mono ?_
  rintro e w2 ⟨rfl, rfl⟩
  go_wp2_with fail
  go_ret
  exact ⟨rfl, rfl⟩
theorem sdig_any (k : Nat) (hk : k < 64) (w : World) (h : Sm w F X c pl l f M fl dg size ev ct a) : Calls Tryz.prog 27 #[.pointer (some ⟨X, 0, none⟩), .int .i64 (k : Int)] w fun e w' => e = .returned (.int .u64 (dg k : Int)) ∧ w' = w := by
  have hR := isRange_any (k : Int)
  have hd : (decide (0 ≤ (k : Int)) && decide ((k : Int) < 64)) = true := by simp; omega
  rw [hd] at hR
  have c0 := sm_digest h hk
  have hk65 : ¬ (64 : Int) ≤ (k : Int) := by omega
  clear hd h
  go_enter Tryz.func27, Tryz.ntmps27
  go_wp2_with fail
  refine (hR _).mono ?_
  rintro e w2 ⟨rfl, rfl⟩
  go_wp2_with fail
  go_ret
  exact ⟨rfl, rfl⟩
end
end Go.Proofs.YthgbdaladngpdaaGreat
