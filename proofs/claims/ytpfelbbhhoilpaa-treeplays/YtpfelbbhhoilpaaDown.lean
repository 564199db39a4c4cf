/- The contract of Walk's closure: it goes down two trees from a node on (wk, cn). -/
import Derived.Test.YtpfelbbhhoilpaaInts
namespace Go.Proofs.Ytpfelbbhhoilpaa
open Go.ChangeShapes Go.WideShapes Go.ChangeAt Go.RowKit
set_option linter.unusedVariables false
set_option linter.unusedSimpArgs false
set_option maxRecDepth 100000

/- What the closure has: two counts of its own (how many are looked at, what is found), two trees, itself. -/
def clo (P1 P2 P3 P4 P5 : Nat) : Value := .func (.func 26) #[] #[.pointer (some ⟨P1, 0, none⟩), .pointer (some ⟨P2, 0, none⟩), .pointer (some ⟨P3, 0, none⟩), .pointer (some ⟨P4, 0, none⟩), .pointer (some ⟨P5, 0, none⟩)]
structure Dn (w : World) (B P1 P2 P3 P4 P5 X Y : Nat) (N M : Nat → Int) (n : Nat) (v : Value) (xs : List Int) : Prop where
  c1 : At w P1 #[.int .i64 (n : Int)] 3
  c2 : At w P2 #[.pointer (some ⟨X, 0, none⟩)] 23
  c3 : At w P3 #[.pointer (some ⟨Y, 0, none⟩)] 23
  c4 : At w P4 #[v] 40
  c5 : At w P5 #[clo P1 P2 P3 P4 P5] 55
  own : Own .i64 3 w B v xs
  tx : Nd w X N
  ty : Nd w Y M
  l1 : P1 < B
  l2 : P2 < B
  l3 : P3 < B
  l4 : P4 < B
  l5 : P5 < B
  lx : X < B
  ly : Y < B
  lb : B ≤ w.heap.size
def FD (B P1 P4 : Nat) (k : Nat) : Prop := k = P1 ∨ k = P4 ∨ B ≤ k
section
variable {w w' : World} {B P1 P2 P3 P4 P5 X Y n : Nat} {N M : Nat → Int} {v : Value} {xs : List Int}
theorem dn_kept (h : Dn w B P1 P2 P3 P4 P5 X Y N M n v xs) (k : Kept w w') : Dn w' B P1 P2 P3 P4 P5 X Y N M n v xs :=
  ⟨at_kept h.c1 k, at_kept h.c2 k, at_kept h.c3 k, at_kept h.c4 k, at_kept h.c5 k, own_stays h.own k, nd_kept h.tx k, nd_kept h.ty k, h.l1, h.l2, h.l3, h.l4, h.l5, h.lx, h.ly, Nat.le_trans h.lb k.2⟩
theorem dn_cells (h : Dn w B P1 P2 P3 P4 P5 X Y N M n v xs) : w.cell? ⟨P1, 0, none⟩ = some (.int .i64 (n : Int)) ∧ w.cell? ⟨P2, 0, none⟩ = some (.pointer (some ⟨X, 0, none⟩)) ∧ w.cell? ⟨P3, 0, none⟩ = some (.pointer (some ⟨Y, 0, none⟩)) ∧ w.cell? ⟨P4, 0, none⟩ = some v ∧ w.cell? ⟨P5, 0, none⟩ = some (clo P1 P2 P3 P4 P5) ∧ (∀ j, w.frozen? ⟨P1, j, none⟩ = false) ∧ (∀ j, w.frozen? ⟨P4, j, none⟩ = false) :=
  ⟨at_cell h.c1 0, at_cell h.c2 0, at_cell h.c3 0, at_cell h.c4 0, at_cell h.c5 0, at_frozen h.c1, at_frozen h.c4⟩
theorem dn_count (h : Dn w B P1 P2 P3 P4 P5 X Y N M n v xs) (m : Nat) : Dn (w.setCell ⟨P1, 0, none⟩ (.int .i64 (m : Int))) B P1 P2 P3 P4 P5 X Y N M m v xs :=
  ⟨at_set h.c1 0 _, at_other h.c2 (at_ne h.c2 h.c1 (by decide)) _ _, at_other h.c3 (at_ne h.c3 h.c1 (by decide)) _ _, at_other h.c4 (at_ne h.c4 h.c1 (by decide)) _ _, at_other h.c5 (at_ne h.c5 h.c1 (by decide)) _ _, own_set h.own h.l1 _ _, at_other h.tx (at_ne h.tx h.c1 (by decide)) _ _, at_other h.ty (at_ne h.ty h.c1 (by decide)) _ _, h.l1, h.l2, h.l3, h.l4, h.l5, h.lx, h.ly, by simpa [World.setCell] using h.lb⟩
theorem dn_found (h : Dn w B P1 P2 P3 P4 P5 X Y N M n v xs) {u : Value} {ys : List Int} (ho : Own .i64 3 w B u ys) : Dn (w.setCell ⟨P4, 0, none⟩ u) B P1 P2 P3 P4 P5 X Y N M n u ys :=
  ⟨at_other h.c1 (at_ne h.c1 h.c4 (by decide)) _ _, at_other h.c2 (at_ne h.c2 h.c4 (by decide)) _ _, at_other h.c3 (at_ne h.c3 h.c4 (by decide)) _ _, at_set h.c4 0 _, at_other h.c5 (at_ne h.c5 h.c4 (by decide)) _ _, own_set ho h.l4 _ _, at_other h.tx (at_ne h.tx h.c4 (by decide)) _ _, at_other h.ty (at_ne h.ty h.c4 (by decide)) _ _, h.l1, h.l2, h.l3, h.l4, h.l5, h.lx, h.ly, by simpa [World.setCell] using h.lb⟩
/- The row of what is found has grown. -/
theorem dn_grown (h : Dn w B P1 P2 P3 P4 P5 X Y N M n v xs) (g : w.grownBy w' v.ownBlock) {u : Value} {ys : List Int} (ho : Own .i64 3 w' B u ys) : Dn (w'.setCell ⟨P4, 0, none⟩ u) B P1 P2 P3 P4 P5 X Y N M n u ys := by
  have hb : ∀ k, k < B → w'.heap[k]? = w.heap[k]? := fun k hk => g.block k (Nat.lt_of_lt_of_le hk h.lb) (fun e => by have := own_lt h.own e.symm; omega)
  have h4 : At w' P4 #[v] 40 := (hb _ h.l4).trans h.c4
  refine ⟨at_other ((hb _ h.l1).trans h.c1) (at_ne h.c1 h.c4 (by decide)) _ _, at_other ((hb _ h.l2).trans h.c2) (at_ne h.c2 h.c4 (by decide)) _ _, at_other ((hb _ h.l3).trans h.c3) (at_ne h.c3 h.c4 (by decide)) _ _, at_set h4 0 _, at_other ((hb _ h.l5).trans h.c5) (at_ne h.c5 h.c4 (by decide)) _ _, own_set ho h.l4 _ _, at_other ((hb _ h.lx).trans h.tx) (at_ne h.tx h.c4 (by decide)) _ _, at_other ((hb _ h.ly).trans h.ty) (at_ne h.ty h.c4 (by decide)) _ _, h.l1, h.l2, h.l3, h.l4, h.l5, h.lx, h.ly, ?_⟩
  have := g.size
  have := h.lb
  simp [World.setCell]
  omega
end
def DownC (B P1 P2 P3 P4 P5 X Y : Nat) (N M : Nat → Int) (k n : Nat) (xs : List Int) (w : World) (e : Ending) (w' : World) : Prop :=
  e = .returned (.tuple #[]) ∧ ∃ v', Dn w' B P1 P2 P3 P4 P5 X Y N M (n + cn N M k) v' (xs ++ cs (wk N M k)) ∧ Tn (FD B P1 P4) w w'
section
variable {w : World} {B P1 P2 P3 P4 P5 X Y n : Nat} {N M : Nat → Int} {v : Value} {xs : List Int}
set_option maxHeartbeats 1600000 in
theorem down_eq (k : Nat) (hk : k < 128) (e : N k = M k) (hn : n + cn N M k ≤ 1000) (hD : Dn w B P1 P2 P3 P4 P5 X Y N M n v xs) :
    Calls Try.prog 26 #[.int .i64 (k : Int), .pointer (some ⟨P1, 0, none⟩), .pointer (some ⟨P2, 0, none⟩), .pointer (some ⟨P3, 0, none⟩), .pointer (some ⟨P4, 0, none⟩), .pointer (some ⟨P5, 0, none⟩)] w (DownC B P1 P2 P3 P4 P5 X Y N M k n xs w) := by
  obtain ⟨c1, c2, c3, c4, c5, f1, f4⟩ := dn_cells hD
  have HD1 := hid (dn_count hD (n + 1))
  have HT1 := hid (tn_set (F := FD B P1 P4) (tn_refl (w := w)) (X := P1) (.inl (.inl rfl)) 0 (.int .i64 ((n + 1 : Nat) : Int)))
  obtain ⟨r, hr⟩ : ∃ r, n + 1 = r := ⟨_, rfl⟩
  rw [hr] at HD1 HT1
  have hri : (n : Int) + 1 = (r : Int) := by omega
  have hnb : n ≤ 1000 := by omega
  obtain ⟨w1, hw1⟩ : ∃ w1, w.setCell ⟨P1, 0, none⟩ (.int .i64 (r : Int)) = w1 := ⟨_, rfl⟩
  rw [hw1] at HD1 HT1
  obtain ⟨d1, d2, d3, d4, d5, -, -⟩ := dn_cells HD1.out
  have x0 := nd_cell HD1.out.tx (k := k) (by omega)
  have y0 := nd_cell HD1.out.ty (k := k) (by omega)
  have k1 : ¬ (128 : Int) ≤ (k : Int) := by omega
  have k2 : (k : Int) < 128 := by omega
  have HR := hid hr
  unfold clo at d5
  clear hr hD c2 c3 c4 c5 f4
  have HE := hid (wk_eq e)
  rw [e] at x0
  have ee : (M k == M k) = true := by simp
  generalize M k = z at *
  clear e hn
  go_enter Try.func26, Try.ntmps26
  go_wp2_with fail
  go_quiet (fail)
  go_wp2_with fail
  exact bodyPost_ret (v := .tuple #[]) (by kernel_rfl) rfl ⟨rfl, v, by rw [HE.out.1, HE.out.2, HR.out]; simpa [cs] using dn_kept HD1.out (kept_drewN (kept_refl _) _), tn_trans HT1.out (tn_kept (kept_drewN (kept_refl _) _))⟩
set_option maxHeartbeats 1600000 in
theorem down_leaf (k : Nat) (hk : k < 128) (h64 : 64 ≤ k) (e : N k ≠ M k) (hn : n + cn N M k ≤ 1000) (hx : xs.length + 1 ≤ 1000) (hD : Dn w B P1 P2 P3 P4 P5 X Y N M n v xs) :
    Calls Try.prog 26 #[.int .i64 (k : Int), .pointer (some ⟨P1, 0, none⟩), .pointer (some ⟨P2, 0, none⟩), .pointer (some ⟨P3, 0, none⟩), .pointer (some ⟨P4, 0, none⟩), .pointer (some ⟨P5, 0, none⟩)] w (DownC B P1 P2 P3 P4 P5 X Y N M k n xs w) := by
  obtain ⟨c1, c2, c3, c4, c5, f1, f4⟩ := dn_cells hD
  have HD1 := hid (dn_count hD (n + 1))
  have HT1 := hid (tn_set (F := FD B P1 P4) (tn_refl (w := w)) (X := P1) (.inl (.inl rfl)) 0 (.int .i64 ((n + 1 : Nat) : Int)))
  obtain ⟨r, hr⟩ : ∃ r, n + 1 = r := ⟨_, rfl⟩
  rw [hr] at HD1 HT1
  have hri : (n : Int) + 1 = (r : Int) := by omega
  have hnb : n ≤ 1000 := by omega
  obtain ⟨w1, hw1⟩ : ∃ w1, w.setCell ⟨P1, 0, none⟩ (.int .i64 (r : Int)) = w1 := ⟨_, rfl⟩
  rw [hw1] at HD1 HT1
  obtain ⟨d1, d2, d3, d4, d5, -, -⟩ := dn_cells HD1.out
  have x0 := nd_cell HD1.out.tx (k := k) (by omega)
  have y0 := nd_cell HD1.out.ty (k := k) (by omega)
  have k1 : ¬ (128 : Int) ≤ (k : Int) := by omega
  have k2 : (k : Int) < 128 := by omega
  have HR := hid hr
  unfold clo at d5
  clear hr hD c2 c3 c4 c5 f4
  have HE := hid (wk_leaf e h64)
  have ee : (N k == M k) = false := by simpa using e
  generalize N k = y at *
  generalize M k = z at *
  clear e hn
  obtain ⟨j, hj⟩ : ∃ j, k - 64 = j := ⟨_, rfl⟩
  have hji : (k : Int) - 64 = (j : Int) := by omega
  rw [hj] at HE
  clear hj
  go_enter Try.func26, Try.ntmps26
  go_wp2_with fail
  go_quiet (fail)
  have HD2 := hid (dn_kept HD1.out (kept_drewN (kept_refl _) nq))
  have HT2 := hid (tn_trans HT1.out (tn_kept (F := FD B P1 P4) (kept_drewN (kept_refl w1) nq)))
  clear c1 f1 d1 d2 d3 d5 x0 y0 ee HD1 HT1
  have d6 : (w1.drewN nq).cell? ⟨P4, 0, none⟩ = some v := d4
  clear d4
  generalize w1.drewN nq = w2 at *
  obtain ⟨i0, hi, hz0, hz1, hz2⟩ := info_parts (P := Try.prog) (e := 3) info3
  have HI := hid (And.intro hi (And.intro hz0 (And.intro hz1 hz2)))
  obtain ⟨va, vc, hv⟩ := own_is HD2.out.own
  subst hv
  have HO2 := hid (World.ownsRow.alloc HD2.out.own (.cells #[.int .i64 (j : Int)] 3))
  have HDa := hid (dn_kept HD2.out (kept_alloc (kept_refl w2) (.cells #[.int .i64 (j : Int)] 3)))
  have HTa := hid (tn_alloc HT2.out (.cells #[.int .i64 (j : Int)] 3))
  generalize hq : xs.length = q at *
  have HQ := hid hq
  clear hi hz0 hz1 hz2 hq
  have HEnd : Hid (∀ v3 w3, w3.ownsRow B 3 1 v3 (q + 1) (rv .i64 xs ++ [.int .i64 (j : Int)]) → (w2.alloc (.cells #[.int .i64 (j : Int)] 3)).grownBy w3 (Value.slice va q vc).ownBlock → (∃ a c, v3 = .slice a (q + 1) c) ∧ (w3.cell? ⟨P4, 0, none⟩ = some (.slice va q vc) ∧ ∀ j, w3.frozen? ⟨P4, j, none⟩ = false) ∧ Hid (DownC B P1 P2 P3 P4 P5 X Y N M k n xs w (.returned (.tuple #[])) (w3.setCell ⟨P4, 0, none⟩ v3))) := hid (fun v3 w3 ho hg => by
    have hlen : (xs ++ [(j : Int)]).length = q + 1 := by simp [HQ.out]
    have ho2 : Own .i64 3 w3 B v3 (xs ++ [(j : Int)]) := own_len (m := q + 1) (by rw [rv_app]; exact ho) hlen
    have hD3 := dn_grown HDa.out hg ho2
    have h4 : At w3 P4 #[.slice va q vc] 40 := (hg.block P4 (Nat.lt_of_lt_of_le HDa.out.l4 HDa.out.lb) (fun e => by have := own_lt HDa.out.own e.symm; have := HDa.out.l4; omega)).trans HDa.out.c4
    obtain ⟨a, c, e⟩ := own_is ho2
    rw [hlen] at e
    refine ⟨⟨a, c, e⟩, ⟨at_cell h4 0, at_frozen h4⟩, hid ⟨rfl, v3, ?_, ?_⟩⟩
    · rw [HE.out.1, HE.out.2, HR.out]; exact hD3
    · exact tn_set (tn_grown HTa.out hg (fun k e => .inr (.inr (own_lt HDa.out.own e)))) (.inl (.inr (.inl rfl))) 0 v3)
  clear HE HDa HTa HR HT2 HQ
  go_wp2_with (at_builtin; go_must (refine wpList_append_own _ rfl (.tmp 24) (.tmp 27) 40 rfl B 3 i0 (.int .i64 0) 1 8 Try.underlying40 HI.out.1 HI.out.2.1 HI.out.2.2.1 HI.out.2.2.2 rfl (by decide) _ _ _ rfl HO2.out ⟨w2.heap.size, 0, none⟩ 1 1 [.int .i64 (j : Int)] rfl rfl (cell_one _ _ _) (one_one _ _) (by unfold maxLen; omega) (by omega) (by have := HD2.out.lb; simp; omega) ?_; intro v3 w3 hown3 hgrow3 hnil3; obtain ⟨⟨a3, b3, rfl⟩, ⟨g1, g2⟩, HF⟩ := HEnd.out v3 w3 hown3 hgrow3))
  exact bodyPost_ret (v := .tuple #[]) (by kernel_rfl) rfl HF.out
set_option maxHeartbeats 1600000 in
theorem down_up (k : Nat) (h0 : 1 ≤ k) (hk : k < 64) (e : N k ≠ M k) (hn : n + cn N M k ≤ 1000) (hx : xs.length + (wk N M k).length ≤ 1000) (hD : Dn w B P1 P2 P3 P4 P5 X Y N M n v xs)
    (HA : Hid (∀ (n : Nat) (v : Value) (xs : List Int) (w : World), xs.length + (wk N M (2 * k)).length ≤ 1000 → n + cn N M (2 * k) ≤ 1000 → Dn w B P1 P2 P3 P4 P5 X Y N M n v xs → Calls Try.prog 26 #[.int .i64 ((2 * k : Nat) : Int), .pointer (some ⟨P1, 0, none⟩), .pointer (some ⟨P2, 0, none⟩), .pointer (some ⟨P3, 0, none⟩), .pointer (some ⟨P4, 0, none⟩), .pointer (some ⟨P5, 0, none⟩)] w (DownC B P1 P2 P3 P4 P5 X Y N M (2 * k) n xs w)))
    (HB : Hid (∀ (n : Nat) (v : Value) (xs : List Int) (w : World), xs.length + (wk N M (2 * k + 1)).length ≤ 1000 → n + cn N M (2 * k + 1) ≤ 1000 → Dn w B P1 P2 P3 P4 P5 X Y N M n v xs → Calls Try.prog 26 #[.int .i64 ((2 * k + 1 : Nat) : Int), .pointer (some ⟨P1, 0, none⟩), .pointer (some ⟨P2, 0, none⟩), .pointer (some ⟨P3, 0, none⟩), .pointer (some ⟨P4, 0, none⟩), .pointer (some ⟨P5, 0, none⟩)] w (DownC B P1 P2 P3 P4 P5 X Y N M (2 * k + 1) n xs w))) :
    Calls Try.prog 26 #[.int .i64 (k : Int), .pointer (some ⟨P1, 0, none⟩), .pointer (some ⟨P2, 0, none⟩), .pointer (some ⟨P3, 0, none⟩), .pointer (some ⟨P4, 0, none⟩), .pointer (some ⟨P5, 0, none⟩)] w (DownC B P1 P2 P3 P4 P5 X Y N M k n xs w) := by
  obtain ⟨c1, c2, c3, c4, c5, f1, f4⟩ := dn_cells hD
  have HD1 := hid (dn_count hD (n + 1))
  have HT1 := hid (tn_set (F := FD B P1 P4) (tn_refl (w := w)) (X := P1) (.inl (.inl rfl)) 0 (.int .i64 ((n + 1 : Nat) : Int)))
  obtain ⟨r, hr⟩ : ∃ r, n + 1 = r := ⟨_, rfl⟩
  rw [hr] at HD1 HT1
  have hri : (n : Int) + 1 = (r : Int) := by omega
  have hnb : n ≤ 1000 := by omega
  obtain ⟨w1, hw1⟩ : ∃ w1, w.setCell ⟨P1, 0, none⟩ (.int .i64 (r : Int)) = w1 := ⟨_, rfl⟩
  rw [hw1] at HD1 HT1
  obtain ⟨d1, d2, d3, d4, d5, -, -⟩ := dn_cells HD1.out
  have x0 := nd_cell HD1.out.tx (k := k) (by omega)
  have y0 := nd_cell HD1.out.ty (k := k) (by omega)
  have k1 : ¬ (128 : Int) ≤ (k : Int) := by omega
  have k2 : (k : Int) < 128 := by omega
  have HR := hid hr
  unfold clo at d5
  clear hr hD c2 c3 c4 c5 f4
  have HE := hid (wk_up e h0 hk)
  have ee : (N k == M k) = false := by simpa using e
  have HNX : Hid (n + cn N M k ≤ 1000 ∧ xs.length + (wk N M k).length ≤ 1000) := hid ⟨hn, hx⟩
  clear hx hn
  generalize hy : N k = y at *
  generalize hz : M k = z at *
  clear e hy hz
  obtain ⟨a, ha⟩ : ∃ a, 2 * k = a := ⟨_, rfl⟩
  obtain ⟨b, hb⟩ : ∃ b, 2 * k + 1 = b := ⟨_, rfl⟩
  rw [hb, ha] at HE
  rw [ha] at HA
  rw [hb] at HB
  have hai : 2 * (k : Int) = (a : Int) := by omega
  have hbi : (a : Int) + 1 = (b : Int) := by omega
  have hab : a ≤ 128 ∧ b ≤ 129 := by omega
  clear ha hb
  go_enter Try.func26, Try.ntmps26
  go_wp2_with fail
  go_quiet (fail)
  have HD2 := hid (dn_kept HD1.out (kept_drewN (kept_refl _) nq))
  have HT2 := hid (tn_trans HT1.out (tn_kept (F := FD B P1 P4) (kept_drewN (kept_refl w1) nq)))
  clear c1 f1 d1 d2 d3 d4 d5 x0 y0 ee HD1 HT1
  generalize w1.drewN nq = w2 at *
  have d5 := (dn_cells HD2.out).2.2.2.2.1
  unfold clo at d5
  go_wp2_with fail
  refine (HA.out r v xs w2 ?_ ?_ HD2.out).mono ?_
  · have := HNX.out.2; rw [HE.out.1] at this; simp at this; omega
  · have := HNX.out.1; rw [HE.out.2] at this; have := HR.out; omega
  rintro e w3 ⟨rfl, v3, D3, t3⟩
  have HD3 := hid D3
  have HT3 := hid (tn_trans HT2.out t3)
  clear D3 t3 d5
  have d5 := (dn_cells HD3.out).2.2.2.2.1
  unfold clo at d5
  go_wp2_with fail
  refine (HB.out _ v3 _ w3 ?_ ?_ HD3.out).mono ?_
  · have := HNX.out.2; rw [HE.out.1] at this; simp [cs_len] at this ⊢; omega
  · have := HNX.out.1; rw [HE.out.2] at this; have := HR.out; omega
  rintro e w4 ⟨rfl, v4, D4, t4⟩
  have HEnd : Hid (DownC B P1 P2 P3 P4 P5 X Y N M k n xs w (.returned (.tuple #[])) w4) := hid ⟨rfl, v4, by
    have e1 : n + cn N M k = r + cn N M a + cn N M b := by rw [HE.out.2, ← HR.out]; omega
    have e2 : xs ++ cs (wk N M k) = xs ++ cs (wk N M a) ++ cs (wk N M b) := by rw [HE.out.1, cs_app, List.append_assoc]
    rw [e1, e2]
    exact D4, tn_trans HT3.out t4⟩
  clear D4 t4
  go_wp2_with fail
  exact bodyPost_end (v := .tuple #[]) (by kernel_rfl) rfl HEnd.out
theorem down_any (B P1 P2 P3 P4 P5 X Y : Nat) (N M : Nat → Int) : ∀ (h k : Nat), 64 ≤ k * 2 ^ h → (k + 1) * 2 ^ h ≤ 128 → ∀ (n : Nat) (v : Value) (xs : List Int) (w : World), xs.length + (wk N M k).length ≤ 1000 → n + cn N M k ≤ 1000 → Dn w B P1 P2 P3 P4 P5 X Y N M n v xs →
    Calls Try.prog 26 #[.int .i64 (k : Int), .pointer (some ⟨P1, 0, none⟩), .pointer (some ⟨P2, 0, none⟩), .pointer (some ⟨P3, 0, none⟩), .pointer (some ⟨P4, 0, none⟩), .pointer (some ⟨P5, 0, none⟩)] w (DownC B P1 P2 P3 P4 P5 X Y N M k n xs w)
  | 0, k, h1, h2, n, v, xs, w, hx, hn, hD => by
    simp at h1 h2
    by_cases e : N k = M k
    · exact down_eq k (by omega) e hn hD
    · refine down_leaf k (by omega) h1 e hn ?_ hD
      rw [(wk_leaf e h1).1] at hx
      simpa using hx
  | h + 1, k, h1, h2, n, v, xs, w, hx, hn, hD => by
    have hp : 0 < 2 ^ h := Nat.pow_pos (by omega)
    have e2 : 2 ^ (h + 1) = 2 * 2 ^ h := by rw [Nat.pow_succ]; omega
    rw [e2] at h1 h2
    have g0 : 1 ≤ k := by
      rcases Nat.eq_zero_or_pos k with g0 | g0
      · subst g0; simp at h1
      · exact g0
    have g1 : k < 64 := by
      rcases Nat.lt_or_ge k 64 with g | g
      · exact g
      · have : 65 * (2 * 2 ^ h) ≤ (k + 1) * (2 * 2 ^ h) := Nat.mul_le_mul_right _ (by omega)
        omega
    have m1 : 2 * k * 2 ^ h = k * (2 * 2 ^ h) := by rw [Nat.mul_comm 2 k, Nat.mul_assoc]
    have m2 : (2 * k + 1) * 2 ^ h = k * (2 * 2 ^ h) + 2 ^ h := by rw [Nat.add_mul, m1, Nat.one_mul]
    have m3 : (2 * k + 1 + 1) * 2 ^ h = k * (2 * 2 ^ h) + 2 * 2 ^ h := by rw [Nat.add_mul, m2, Nat.one_mul]; omega
    have m4 : (k + 1) * (2 * 2 ^ h) = k * (2 * 2 ^ h) + 2 * 2 ^ h := by rw [Nat.add_mul, Nat.one_mul]
    by_cases e : N k = M k
    · exact down_eq k (by omega) e hn hD
    · exact down_up k g0 g1 e hn hx hD (hid (fun n v xs w => down_any B P1 P2 P3 P4 P5 X Y N M h (2 * k) (by omega) (by omega) n v xs w)) (hid (fun n v xs w => down_any B P1 P2 P3 P4 P5 X Y N M h (2 * k + 1) (by omega) (by omega) n v xs w))
end
end Go.Proofs.Ytpfelbbhhoilpaa
