/- The landed doubts in memory (DbT); the contracts of NewDoubts, Begin, End and over. Over: what it tells and what it leaves; the landed doubts are as they must be. The fifth law, of the landed code. -/
import Derived.Test.YtgmcjnhijgnadaaY8
import Derived.Test.YtgmcjnhijgnadaaPrIs
import Derived.Test.YtgmcjnhijgnadaaPrOpen
import Derived.Test.YtgmcjnhijgnadaaPrAll1

namespace Go.Proofs.Ytgmcjnhijgnadaa
open Go.ChangeShapes Go.WideShapes Go.ChangeAt Go.RowKit
set_option linter.unusedVariables false
set_option linter.unusedSimpArgs false
set_option maxRecDepth 100000

structure Dm where
  inc : Int
  fr : Int
def edM (d : Dm) : DataW Unit := .agg [.lit (.int .u32 d.inc), .lit (.int .u64 d.fr)]
def evM (d : Dm) : Value := .agg #[.int .u32 d.inc, .int .u64 d.fr]
def rdM (v : Value) : Option (DataW Unit × List MemPlace) :=
  match v with
  | .agg xs => match xs.toList with
    | [.int .u32 a, .int .u64 b] => some (edM ⟨a, b⟩, [])
    | _ => none
  | _ => none
theorem rdM_inv {v : Value} {y : DataW Unit × List MemPlace} (h : rdM v = some y) : ∃ c, v = evM c ∧ y = (edM c, []) := by
  unfold rdM at h
  split at h
  · rename_i xs
    split at h
    · rename_i a b hx
      injection h with h
      refine ⟨⟨a, b⟩, ?_, h.symm⟩
      unfold evM
      congr 1
      exact Array.toList_inj.1 hx
    · cases h
  · cases h
theorem edM_inj {a b : Dm} (h : edM a = edM b) : a = b := by
  cases a
  cases b
  unfold edM at h
  injection h with h
  simp only [List.cons.injEq, DataW.lit.injEq, Lit.int.injEq, true_and, and_true] at h
  obtain ⟨rfl, rfl⟩ := h
  rfl
theorem zeroM (w : World) : (zeroValue 95).run Try.prog w = .ok (.agg #[.int .u32 0, .int .u64 0]) w := by kernel_rfl
theorem zeroDS (w : World) : (zeroValue 93).run Try.prog w = .ok (.agg #[.int .u64 0, .map none]) w := by kernel_rfl
def mapM : MapD Int Dm := { t := 91, k := 5, e := 95, kv := .int .u8, kl := klU, ok := okU, ev := evM, ed := edM, rd := rdM, z := ⟨0, 0⟩ }
theorem mapM_ok : mapM.Ok Try.prog := {
  und := Try.underlying91
  keyed := keyed5
  key := key5
  inj := klU_inj
  zero := zeroM
  reads := fun _ => rfl
  inv := fun v y ps h => by
    obtain ⟨c, e1, e2⟩ := rdM_inv h
    injection e2 with e2 _
    rw [e1, edM_inj e2]
    rfl
  invK := fun key l h => klU_inv h
  invV := fun v y h => rdM_inv h }
theorem look2_M {w : World} {S : Nat} {g : Int → Option Dm} (h : Gd' mapM w S g) {x : Int} (hx : okU x) : (Instr.lookup 91 (.map (some S)) (.int .u8 x) true).run Try.prog w = .ok (.tuple #[.agg #[.int .u32 ((g x).getD ⟨0, 0⟩).inc, .int .u64 ((g x).getD ⟨0, 0⟩).fr], .bool (g x).isSome]) w := gm_look mapM_ok h (x := x) hx
theorem look_M {w : World} {S : Nat} {g : Int → Option Dm} (h : Gd' mapM w S g) {x : Int} (hx : okU x) : (Instr.lookup 91 (.map (some S)) (.int .u8 x) false).run Try.prog w = .ok (.agg #[.int .u32 ((g x).getD ⟨0, 0⟩).inc, .int .u64 ((g x).getD ⟨0, 0⟩).fr]) w := gm_look1 mapM_ok h (x := x) hx
theorem put_M {w : World} {S : Nat} {g : Int → Option Dm} (h : Gd' mapM w S g) {x : Int} (hx : okU x) (d : Dm) : ∃ w', (Instr.mapUpdate 91 (.map (some S)) (.int .u8 x) (.agg #[.int .u32 d.inc, .int .u64 d.fr])).run Try.prog w = .ok () w' ∧ Gd' mapM w' S (upd g x d) ∧ w.mapTurned w' S := gd_put mapM_ok rfl h hx d
theorem del_M {w : World} {S : Nat} {g : Int → Option Dm} (h : Gd' mapM w S g) {x : Int} (hx : okU x) (ty : TypeId) : ∃ w', (Builtin.delete_ #[91, 5] ty #[.map (some S), .int .u8 x]).run Try.prog w = .ok (.tuple #[]) w' ∧ Gd' mapM w' S (del g x) ∧ w.mapTurned w' S := gd_del mapM_ok rfl h hx ty
/- The doubts in memory. -/
def dbOf (n : Nat) (h : Int → Option Dm) (x : Int) : Option Db := (h x).map (fun d => ⟨d.inc, d.fr + (n : Int)⟩)
structure DbM (w : World) (X n m : Nat) (h : Int → Option Dm) : Prop where
  a : At w X #[.int .u64 (n : Int), .map (some m)] 93
  g : Gd' mapM w m h
def DbT : Shape Ds := fun w X s F => ∃ m h, DbM w X s.n m h ∧ (∀ x, s.g x = dbOf s.n h x) ∧ (∀ x d, s.g x = some d → (s.n : Int) ≤ d.over) ∧ ∀ b, F b ↔ (b = X ∨ b = m)
theorem db_lt {w : World} {X : Nat} {s : Ds} {F : Nat → Prop} {b : Nat} (h : DbT w X s F) (hb : F b) : b < w.heap.size := by
  obtain ⟨m, h, hM, hg, hp, hF⟩ := h
  rcases (hF b).1 hb with rfl | rfl
  · exact at_lt hM.a
  · exact gm_lt hM.g
theorem db_stay {w w' : World} {X : Nat} {s : Ds} {F : Nat → Prop} (h : DbT w X s F) (hs : ∀ b, F b → w'.heap[b]? = w.heap[b]?) : DbT w' X s F := by
  obtain ⟨m, h, hM, hg, hp, hF⟩ := h
  exact ⟨m, h, ⟨(hs X ((hF X).2 (.inl rfl))).trans hM.a, gd_block hM.g (hs m ((hF m).2 (.inr rfl)))⟩, hg, hp, hF⟩
theorem db_obj : ObjIs DbT := ⟨fun h hb => db_lt h hb, fun h hs => db_stay h hs⟩
section
variable {w w' : World} {X n m : Nat} {h h' : Int → Option Dm}
theorem dbm_kept (d : DbM w X n m h) (k : Kept w w') : DbM w' X n m h := ⟨at_kept d.a k, gd_kept d.g k⟩
theorem dbm_turned (d : DbM w X n m h) (g : Gd' mapM w' m h') (t : w.mapTurned w' m) : DbM w' X n m h' := ⟨at_turned d.a t, g⟩
/- Only the doubts' own may have turned. -/
def Tm (m : Nat) (w w' : World) : Prop := w'.os = w.os ∧ w'.output = w.output ∧ w.heap.size ≤ w'.heap.size ∧ ∀ b, b < w.heap.size → b ≠ m → w'.heap[b]? = w.heap[b]?
theorem tm_refl (m : Nat) (w : World) : Tm m w w := ⟨rfl, rfl, Nat.le_refl _, fun _ _ _ => rfl⟩
theorem tm_trans {u : World} (a : Tm m u w) (b : Tm m w w') : Tm m u w' := ⟨b.1.trans a.1, b.2.1.trans a.2.1, Nat.le_trans a.2.2.1 b.2.2.1, fun i hi hn => (b.2.2.2 i (Nat.lt_of_lt_of_le hi a.2.2.1) hn).trans (a.2.2.2 i hi hn)⟩
theorem tm_kept (k : Kept w w') : Tm m w w' := ⟨kept_os k, kept_output k, k.2, fun b hb _ => kept_block k hb⟩
theorem tm_turned (t : w.mapTurned w' m) : Tm m w w' := ⟨t.grown.os, t.grown.output, t.grown.size, fun b hb hn => turned_block t hb hn⟩
theorem tm_sd {F F' : Nat → Prop} (hF : ∀ b, F b ↔ (b = X ∨ b = m)) (hF' : ∀ b, F' b ↔ (b = X ∨ b = m)) (t : Tm m w w') : Sd F w F' w' := ⟨⟨t.1, t.2.1, t.2.2.1, fun b hb hn => t.2.2.2 b hb (fun e => hn ((hF b).2 (.inr e)))⟩, fun b hb => .inl ((hF b).2 ((hF' b).1 hb))⟩
end
theorem at_cells2' {w : World} {X T : Nat} {a0 a1 : Value} (h : At w X #[a0, a1] T) : w.cell? ⟨X, 0, none⟩ = some a0 ∧ w.cell? ⟨X, 1, none⟩ = some a1 := ⟨at_cell h 0, at_cell h 1⟩
/- NewDoubts. -/
def NewDC (n : Nat) (w : World) (e : Ending) (w' : World) : Prop := ∃ X F, e = .returned (.tuple #[.pointer (some ⟨X, 0, none⟩), .int .i64 0]) ∧ DbT w' X ⟨n, fun _ => none⟩ F ∧ Kept w w' ∧ ∀ b, F b → w.heap.size ≤ b
theorem dbnew_ok (n : Nat) (w : World) (h1 : 1 ≤ n) (h2 : n ≤ 1000) : Calls Try.prog 19 #[.int .i64 (n : Int)] w (NewDC n w) := by
  have b1 : ¬ (n : Int) < 1 := by omega
  have b2 : ¬ (1000 : Int) < (n : Int) := by omega
  have d1 : decide ((n : Int) < 1) = false := by simpa using b1
  have d2 : decide ((1000 : Int) < (n : Int)) = false := by simpa using b2
  have hw : IntKind.u64.wrap (n : Int) = (n : Int) := by rw [IntKind.wrap_u64]; omega
  have hmm := @run_makeMap Try.prog
  go_enter Try.func19, Try.ntmps19
  go_wp2_with fail
  go_ret2
  have hM := gd_made (M := mapM) w
  have k1 := kept_alloc (kept_refl w) (.map #[] 0)
  have k2 := kept_alloc (kept_refl (w.alloc (.map #[] 0))) (.cells #[.int .u64 (n : Int), .map (some w.heap.size)] 93)
  have hA := at_new (w.alloc (.map #[] 0)) #[.int .u64 (n : Int), .map (some w.heap.size)] 93
  have hlt := k1.2
  have es : (w.alloc (.map #[] 0)).heap.size = w.heap.size + 1 := by simp
  rw [es] at hA hlt
  refine ⟨w.heap.size + 1, fun b => b = w.heap.size + 1 ∨ b = w.heap.size, rfl, ⟨_, _, ⟨hA, gd_kept hM k2⟩, fun x => rfl, fun x d hd => (by cases hd), fun b => Iff.rfl⟩, kept_trans k1 k2, fun b hb => ?_⟩
  rcases hb with rfl | rfl
  · exact hlt
  · exact Nat.le_refl _
/- Begin, End. -/
theorem may_b {n : Nat} {h : Int → Option Dm} {node inc : Int} : mayB (dbOf n h) node inc = !((h node).isSome && decide (inc ≤ ((h node).getD ⟨0, 0⟩).inc)) := by
  unfold mayB dbOf
  cases h node <;> simp
theorem may_e {n : Nat} {h : Int → Option Dm} {node inc : Int} : mayE (dbOf n h) node inc = ((h node).isSome && !decide (inc ≤ ((h node).getD ⟨0, 0⟩).inc)) := by
  unfold mayE dbOf
  cases h node with
  | none => rfl
  | some d =>
    show decide (d.inc < inc) = (true && !decide (inc ≤ d.inc))
    rw [Bool.true_and]
    by_cases q : d.inc < inc
    · have q2 : ¬ inc ≤ d.inc := by omega
      simp [q, q2]
    · have q2 : inc ≤ d.inc := by omega
      simp [q, q2]
theorem put_db (n : Nat) (h : Int → Option Dm) (node inc now : Int) (x : Int) : putG (dbOf n h) node ⟨inc, now + (n : Int)⟩ x = dbOf n (upd h node ⟨inc, now⟩) x := by
  unfold putG dbOf upd
  by_cases e : x = node
  · simp [e]
  · simp [e]
theorem del_db (n : Nat) (h : Int → Option Dm) (node : Int) (x : Int) : delG (dbOf n h) node x = dbOf n (del h node) x := by
  unfold delG dbOf del
  by_cases e : x = node
  · simp [e]
  · simp [e]
def BegC (X n m : Nat) (h : Int → Option Dm) (node inc now : Int) (w : World) (e : Ending) (w' : World) : Prop := e = .returned (.bool (mayB (dbOf n h) node inc)) ∧ (∃ h', DbM w' X n m h' ∧ ∀ x, (if mayB (dbOf n h) node inc then putG (dbOf n h) node ⟨inc, now + (n : Int)⟩ else dbOf n h) x = dbOf n h' x) ∧ Tm m w w'
def FinC (X n m : Nat) (h : Int → Option Dm) (node inc : Int) (w : World) (e : Ending) (w' : World) : Prop := e = .returned (.bool (mayE (dbOf n h) node inc)) ∧ (∃ h', DbM w' X n m h' ∧ ∀ x, (if mayE (dbOf n h) node inc then delG (dbOf n h) node else dbOf n h) x = dbOf n h' x) ∧ Tm m w w'
set_option maxHeartbeats 3200000 in
theorem dbbegin_any {X n m : Nat} {h : Int → Option Dm} (node inc now : Int) (w : World) (d : DbM w X n m h) (hx : okU node) : Calls Try.prog 20 #[.pointer (some ⟨X, 0, none⟩), .int .u8 node, .int .u32 inc, .int .u64 now] w (BegC X n m h node inc now w) := by
  have hB := may_b (n := n) (h := h) (node := node) (inc := inc)
  have hl := look2_M d.g hx
  obtain ⟨c, hc⟩ : ∃ c, (h node).getD ⟨0, 0⟩ = c := ⟨_, rfl⟩
  obtain ⟨b, hb⟩ : ∃ b, (h node).isSome = b := ⟨_, rfl⟩
  rw [hc, hb] at hl hB
  obtain ⟨c0, c1⟩ := at_cells2' d.a
  have kb := kept_alloc (kept_refl w) (.cells #[.int .u32 c.inc, .int .u64 c.fr] 95)
  have hA := at_new w #[.int .u32 c.inc, .int .u64 c.fr] 95
  obtain ⟨w1, hw1⟩ : ∃ u, w.alloc (.cells #[.int .u32 c.inc, .int .u64 c.fr] 95) = u := ⟨_, rfl⟩
  obtain ⟨Z, hZ⟩ : ∃ u, w.heap.size = u := ⟨_, rfl⟩
  rw [hw1] at kb hA
  rw [hZ] at hA
  have HD1 := hid (dbm_kept d kb)
  have HK := hid kb
  obtain ⟨b0, b1⟩ := at_cells2' hA
  obtain ⟨e0, e1⟩ := at_cells2' HD1.out.a
  obtain ⟨w2, hput, g2, t2⟩ := put_M HD1.out.g hx ⟨inc, now⟩
  have HD2 := hid (dbm_turned HD1.out g2 t2)
  have HT2 := hid (tm_trans (tm_kept (m := m) HK.out) (tm_turned t2))
  clear d hx kb hA hc hb g2 t2
  cases b with
  | false =>
    have HB : Hid (mayB (dbOf n h) node inc = true) := hid (by rw [hB]; rfl)
    clear hB
    go_enter Try.func20, Try.ntmps20
    go_wp2_with fail
    go_ret
    refine ⟨says_bool HB.out.symm, ⟨_, HD2.out, fun x => ?_⟩, HT2.out⟩
    rw [HB.out, if_pos rfl]
    exact put_db n h node inc now x
  | true =>
    by_cases hle : inc ≤ c.inc
    · have HB : Hid (mayB (dbOf n h) node inc = false) := hid (by rw [hB]; simp [hle])
      have hd : decide (inc ≤ c.inc) = true := by simpa using hle
      clear hB
      go_enter Try.func20, Try.ntmps20
      go_wp2_with fail
      go_ret
      refine ⟨says_bool HB.out.symm, ⟨_, HD1.out, fun x => ?_⟩, tm_kept HK.out⟩
      rw [HB.out]
      rfl
    · have HB : Hid (mayB (dbOf n h) node inc = true) := hid (by rw [hB]; simp [hle])
      have hd : decide (inc ≤ c.inc) = false := by simpa using hle
      clear hB
      go_enter Try.func20, Try.ntmps20
      go_wp2_with fail
      go_ret
      refine ⟨says_bool HB.out.symm, ⟨_, HD2.out, fun x => ?_⟩, HT2.out⟩
      rw [HB.out, if_pos rfl]
      exact put_db n h node inc now x
set_option maxHeartbeats 3200000 in
theorem dbend_any {X n m : Nat} {h : Int → Option Dm} (node inc : Int) (w : World) (d : DbM w X n m h) (hx : okU node) : Calls Try.prog 21 #[.pointer (some ⟨X, 0, none⟩), .int .u8 node, .int .u32 inc] w (FinC X n m h node inc w) := by
  have hB := may_e (n := n) (h := h) (node := node) (inc := inc)
  have hl := look2_M d.g hx
  obtain ⟨c, hc⟩ : ∃ c, (h node).getD ⟨0, 0⟩ = c := ⟨_, rfl⟩
  obtain ⟨b, hb⟩ : ∃ b, (h node).isSome = b := ⟨_, rfl⟩
  rw [hc, hb] at hl hB
  obtain ⟨c0, c1⟩ := at_cells2' d.a
  have kb := kept_alloc (kept_refl w) (.cells #[.int .u32 c.inc, .int .u64 c.fr] 95)
  have hA := at_new w #[.int .u32 c.inc, .int .u64 c.fr] 95
  obtain ⟨w1, hw1⟩ : ∃ u, w.alloc (.cells #[.int .u32 c.inc, .int .u64 c.fr] 95) = u := ⟨_, rfl⟩
  obtain ⟨Z, hZ⟩ : ∃ u, w.heap.size = u := ⟨_, rfl⟩
  rw [hw1] at kb hA
  rw [hZ] at hA
  have HD1 := hid (dbm_kept d kb)
  have HK := hid kb
  obtain ⟨b0, b1⟩ := at_cells2' hA
  obtain ⟨e0, e1⟩ := at_cells2' HD1.out.a
  obtain ⟨w2, hdel, g2, t2⟩ := del_M HD1.out.g hx 0
  have HD2 := hid (dbm_turned HD1.out g2 t2)
  have HT2 := hid (tm_trans (tm_kept (m := m) HK.out) (tm_turned t2))
  clear d hx kb hA hc hb g2 t2
  cases b with
  | false =>
    have HB : Hid (mayE (dbOf n h) node inc = false) := hid (by rw [hB]; rfl)
    clear hB
    go_enter Try.func21, Try.ntmps21
    go_wp2_with fail
    go_ret
    refine ⟨says_bool HB.out.symm, ⟨_, HD1.out, fun x => ?_⟩, tm_kept HK.out⟩
    rw [HB.out]
    rfl
  | true =>
    by_cases hle : inc ≤ c.inc
    · have HB : Hid (mayE (dbOf n h) node inc = false) := hid (by rw [hB]; simp [hle])
      have hd : decide (inc ≤ c.inc) = true := by simpa using hle
      clear hB
      go_enter Try.func21, Try.ntmps21
      go_wp2_with fail
      go_ret
      refine ⟨says_bool HB.out.symm, ⟨_, HD1.out, fun x => ?_⟩, tm_kept HK.out⟩
      rw [HB.out]
      rfl
    · have HB : Hid (mayE (dbOf n h) node inc = true) := hid (by rw [hB]; simp [hle])
      have hd : decide (inc ≤ c.inc) = false := by simpa using hle
      clear hB
      go_enter Try.func21, Try.ntmps21
      go_wp2_with fail
      go_ret
      refine ⟨says_bool HB.out.symm, ⟨_, HD2.out, fun x => ?_⟩, HT2.out⟩
      rw [HB.out, if_pos rfl]
      exact del_db n h node x
/- over. -/
def Ov1C (b : Bool) (w : World) (e : Ending) (w' : World) : Prop := e = .returned (.bool b) ∧ Kept w w'
set_option maxHeartbeats 3200000 in
theorem dbover1_any {X n : Nat} {mv : Value} (c : Dm) (now : Int) (w : World) (hA : At w X #[.int .u64 (n : Int), mv] 93) (h0 : 0 ≤ c.fr) (h1 : 0 ≤ now) (h2 : now < 18446744073709551616) : Calls Try.prog 32 #[.pointer (some ⟨X, 0, none⟩), .agg #[.int .u32 c.inc, .int .u64 c.fr], .int .u64 now] w (Ov1C (decide (c.fr + (n : Int) ≤ now)) w) := by
  have kb := kept_alloc (kept_refl w) (.cells #[.int .u32 c.inc, .int .u64 c.fr] 95)
  have hN := at_new w #[.int .u32 c.inc, .int .u64 c.fr] 95
  obtain ⟨w1, hw1⟩ : ∃ u, w.alloc (.cells #[.int .u32 c.inc, .int .u64 c.fr] 95) = u := ⟨_, rfl⟩
  obtain ⟨Z, hZ⟩ : ∃ u, w.heap.size = u := ⟨_, rfl⟩
  rw [hw1] at kb hN
  rw [hZ] at hN
  have HK := hid kb
  obtain ⟨b0, b1⟩ := at_cells2' hN
  obtain ⟨e0, e1⟩ := at_cells2' (at_kept hA kb)
  clear hA kb hN e1
  by_cases hle : c.fr ≤ now
  · have hd : decide (c.fr ≤ now) = true := by simpa using hle
    have hwr : IntKind.u64.wrap (now - c.fr) = now - c.fr := by rw [IntKind.wrap_u64]; omega
    have HB : Hid (decide (c.fr + (n : Int) ≤ now) = decide ((n : Int) ≤ now - c.fr)) := hid (by
      by_cases q : c.fr + (n : Int) ≤ now
      · have q2 : (n : Int) ≤ now - c.fr := by omega
        simp [q, q2]
      · have q2 : ¬ (n : Int) ≤ now - c.fr := by omega
        simp [q, q2])
    clear h0 h1 h2
    go_enter Try.func32, Try.ntmps32
    go_wp2_with fail
    go_quiet (fail)
    go_wp2_with fail
    go_ret
    exact ⟨says_bool HB.out.symm, HK.out⟩
  · have hd : decide (c.fr ≤ now) = false := by simpa using hle
    have HB : Hid (decide (c.fr + (n : Int) ≤ now) = false) := hid (by simp; omega)
    clear h0 h1 h2
    go_enter Try.func32, Try.ntmps32
    go_wp2_with fail
    go_quiet (fail)
    go_wp2_with fail
    go_ret
    exact ⟨says_bool HB.out.symm, HK.out⟩
end Go.Proofs.Ytgmcjnhijgnadaa


namespace Go.Proofs.Ytgmcjnhijgnadaa
open Go.ChangeShapes Go.WideShapes Go.ChangeAt Go.RowKit
set_option linter.unusedVariables false
set_option linter.unusedSimpArgs false
set_option maxRecDepth 100000

def ovM (n : Nat) (h : Int → Option Dm) (now : Int) (k : Int) : Option Nw := match h k with
  | none => none
  | some d => if d.fr + (n : Int) ≤ now then some ⟨k, 3, d.inc⟩ else none
def nwsM (n : Nat) (h : Int → Option Dm) (now : Int) (ys : List Int) : List Nw := ys.filterMap (ovM n h now)
def cutM (n : Nat) (h : Int → Option Dm) (now : Int) (ys : List Int) (q : Int) : Option Dm := match h q with
  | none => none
  | some d => if d.fr + (n : Int) ≤ now ∧ q ∈ ys then none else some d
section
variable {n : Nat} {h : Int → Option Dm} {now x : Int} {ys xs : List Int} {d : Dm}
theorem cut_nil : cutM n h now [] = h := by
  funext q
  unfold cutM
  cases h q <;> simp
theorem cut_at (hx : h x = some d) (hn : x ∉ ys) : cutM n h now ys x = some d := by
  unfold cutM
  rw [hx]
  simp [hn]
theorem cut_over (hx : h x = some d) (ho : d.fr + (n : Int) ≤ now) : cutM n h now (ys ++ [x]) = del (cutM n h now ys) x := by
  funext q
  unfold cutM del
  by_cases e : q = x
  · subst e
    simp [hx, ho]
  · simp [e]
theorem cut_stay (hx : h x = some d) (ho : ¬ d.fr + (n : Int) ≤ now) : cutM n h now (ys ++ [x]) = cutM n h now ys := by
  funext q
  unfold cutM
  by_cases e : q = x
  · subst e
    rw [hx]
    simp [ho]
  · simp [e]
theorem nws_over (hx : h x = some d) (ho : d.fr + (n : Int) ≤ now) : nwsM n h now (ys ++ [x]) = nwsM n h now ys ++ [⟨x, 3, d.inc⟩] := by
  unfold nwsM
  rw [List.filterMap_append]
  congr 1
  have : ovM n h now x = some ⟨x, 3, d.inc⟩ := by unfold ovM; rw [hx]; simp [ho]
  rw [List.filterMap_cons, this]
  rfl
theorem nws_stay (hx : h x = some d) (ho : ¬ d.fr + (n : Int) ≤ now) : nwsM n h now (ys ++ [x]) = nwsM n h now ys := by
  unfold nwsM
  rw [List.filterMap_append]
  have : ovM n h now x = none := by unfold ovM; rw [hx]; simp [ho]
  rw [List.filterMap_cons, this]
  simp
theorem nws_len : (nwsM n h now ys).length ≤ ys.length := List.length_filterMap_le _ _
theorem cut_all (hm : ∀ x, x ∈ xs ↔ (h x).isSome = true) (x : Int) : leftG (dbOf n h) now x = dbOf n (cutM n h now xs) x := by
  unfold leftG dbOf cutM
  cases e : h x with
  | none => rfl
  | some d =>
    have hx : x ∈ xs := (hm x).2 (by rw [e]; rfl)
    by_cases q : d.fr + (n : Int) ≤ now
    · simp [hx, q]
    · simp [hx, q]
theorem up_nodup (hU : Up xs) : xs.Nodup := List.Pairwise.imp (fun {a b} hab => by omega) hU
theorem up_same (h1 : Up xs) (h2 : Up ys) (hm : ∀ x, x ∈ xs ↔ x ∈ ys) : xs = ys := List.Perm.eq_of_pairwise (le := fun a b : Int => a < b) (fun a b _ _ h1 h2 => by omega) h1 h2 ((List.perm_ext_iff_of_nodup (up_nodup h1) (up_nodup h2)).2 hm)
def allK : List Int := (List.range 256).map (fun k : Nat => (k : Int))
theorem allK_up : Up allK := by
  unfold Up allK
  rw [List.pairwise_map]
  exact List.Pairwise.imp (fun {a b} hab => by omega) (List.pairwise_lt_range (n := 256))
theorem allK_in : x ∈ allK ↔ okU x := by
  unfold allK okU
  rw [List.mem_map]
  constructor
  · rintro ⟨k, hk, rfl⟩
    have := List.mem_range.1 hk
    omega
  · rintro ⟨h1, h2⟩
    exact ⟨x.toNat, List.mem_range.2 (by omega), by omega⟩
theorem up_all (hU : Up xs) (p : Int → Bool) (hm : ∀ x, x ∈ xs ↔ okU x ∧ p x = true) : xs = allK.filter p := up_same hU (List.Pairwise.filter _ allK_up) (fun x => by rw [hm x, List.mem_filter, allK_in])
theorem up_len (hU : Up xs) (hk : ∀ x ∈ xs, okU x) : xs.length ≤ 256 := by
  have e := up_all hU (fun x => decide (x ∈ xs)) (fun x => ⟨fun hx => ⟨hk x hx, by simpa using hx⟩, fun hx => by simpa using hx.2⟩)
  rw [e]
  refine Nat.le_trans (List.length_filter_le _ _) ?_
  unfold allK
  simp
theorem fm_filter {p : Int → Bool} {f : Int → Option Nw} (hf : ∀ k, p k = false → f k = none) : ∀ l : List Int, (l.filter p).filterMap f = l.filterMap f
  | [] => rfl
  | k :: l => by
    have ih := fm_filter hf l
    cases hp : p k with
    | true => rw [List.filter_cons_of_pos hp, List.filterMap_cons, List.filterMap_cons, ih]
    | false => rw [List.filter_cons_of_neg (by rw [hp]; decide), List.filterMap_cons, hf k hp, ih]
theorem nws_all (hU : Up xs) (hm : ∀ x, x ∈ xs ↔ (h x).isSome = true) (hk : ∀ x d, h x = some d → okU x) : nwsM n h now xs = overL (dbOf n h) now := by
  have hk2 : ∀ x, (h x).isSome = true → okU x := fun x hx => by
    cases e : h x with
    | none => rw [e] at hx; cases hx
    | some d => exact hk x d e
  have e := up_all hU (fun x => (h x).isSome) (fun x => ⟨fun hx => ⟨hk2 x ((hm x).1 hx), (hm x).1 hx⟩, fun hx => (hm x).2 hx.2⟩)
  unfold nwsM
  rw [e, fm_filter (fun k hp => by
    unfold ovM
    cases e : h k with
    | none => rfl
    | some d => rw [e] at hp; cases hp)]
  unfold allK overL
  rw [List.filterMap_map]
  congr 1
  funext k
  show ovM n h now (k : Int) = _
  unfold ovM dbOf
  cases h (k : Int) <;> rfl
end
theorem infoN : (Try.prog.info? 72).map (fun i => (i.zero, i.size, i.bytes)) = some (some (.agg #[.int .u8 0, .int .u8 0, .int .u32 0]), 3, 12) := by kernel_rfl
theorem tyN : TyG Try.prog 67 72 3 12 := by
  obtain ⟨i0, hi, hz0, hz1, hz2⟩ := info_parts infoN
  exact ⟨Try.underlying67, i0, _, hi, hz0, hz1, hz2, rfl⟩
theorem dbm_row {w w' : World} {X n m B : Nat} {h : Int → Option Dm} {v : Value} {xs : List Nw} (d : DbM w X n m h) (o : Og encN 3 72 w B v xs) (gr : w.grownBy w' v.ownBlock) : DbM w' X n m h := ⟨at_beside d.a o (by decide) gr, gm_row d.g o gr⟩
theorem tm_row {w w' : World} {m B : Nat} {v : Value} {xs : List Nw} {u : World} (t : Tm m u w) (o : Og encN 3 72 w B v xs) (hB : u.heap.size ≤ B) (gr : w.grownBy w' v.ownBlock) : Tm m u w' :=
  ⟨gr.os.trans t.1, gr.output.trans t.2.1, Nat.le_trans t.2.2.1 gr.size, fun b hb hn => (gr.block b (Nat.lt_of_lt_of_le hb t.2.2.1) (fun e => by have := og_lt o e.symm; omega)).trans (t.2.2.2 b hb hn)⟩
def OvC (X n m : Nat) (h : Int → Option Dm) (now : Int) (w : World) (e : Ending) (w' : World) : Prop := ∃ r, e = .returned r ∧ Rg encN 3 w' r (overL (dbOf n h) now) ∧ (∃ h', DbM w' X n m h' ∧ ∀ x, leftG (dbOf n h) now x = dbOf n h' x) ∧ Tm m w w'
set_option maxHeartbeats 12800000 in
theorem dbover_any {X n m : Nat} {h : Int → Option Dm} (now : Int) (w : World) (d : DbM w X n m h) (hk : ∀ x d, h x = some d → okU x ∧ 0 ≤ d.fr) (h1 : 0 ≤ now) (h2 : now < 18446744073709551616) : Calls Try.prog 22 #[.pointer (some ⟨X, 0, none⟩), .int .u64 now] w (OvC X n m h now w) := by
  have HD0 := hid d
  have HKy := hid hk
  have HNow : Hid (0 ≤ now ∧ now < 18446744073709551616) := hid ⟨h1, h2⟩
  have C0 := keys_any m w
  obtain ⟨c0, c1⟩ := at_cells2' d.a
  have k1 := kept_alloc (kept_refl w) (.cells #[.map (some m)] 91)
  have a1 := at_new w #[.map (some m)] 91
  obtain ⟨w1, hw1⟩ : ∃ u, w.alloc (.cells #[.map (some m)] 91) = u := ⟨_, rfl⟩
  obtain ⟨Y, hY⟩ : ∃ u, w.heap.size = u := ⟨_, rfl⟩
  rw [hw1] at k1 a1 C0
  rw [hY] at a1 C0
  have HD1 := hid (dbm_kept d k1)
  have HK1 := hid k1
  obtain ⟨D, ho, hs, hH⟩ := HD1.out.g
  have C1 := sorted_any w1 (at_lt a1) (at_cell a1 0) ho (by rw [hs]; exact dom_le h)
  have HH : Hid (∀ x, Maps.has D (klU x) = (h x).isSome) := hid (fun x => (hH x).1)
  clear d hk h1 h2 k1 a1 ho hs hH hw1 hY
  go_enter Try.func22, Try.ntmps22
  go_wp2_with fail
  refine C0.mono ?_
  rintro e u1 ⟨rfl, e2⟩
  have e3 := e2.symm
  subst e3
  clear e2
  clear C0
  go_wp2_with fail
  refine C1.mono ?_
  rintro e w2 ⟨v, xs, rfl, ⟨hU, hx⟩, hOg, hk2⟩
  have HU := hid hU
  have HX : Hid (∀ x, x ∈ xs ↔ (h x).isSome = true) := hid (fun x => by rw [hx x, HH.out x])
  have HO := hid hOg
  have HD2 := hid (dbm_kept HD1.out hk2)
  have HT2 := hid (tm_kept (m := m) (kept_trans HK1.out hk2))
  have HL : Hid (xs.length ≤ 256) := hid (up_len hU (fun x hx2 => by
    have := (HX.out x).1 hx2
    cases e : h x with
    | none => rw [e] at this; cases this
    | some d => exact (HKy.out x d e).1))
  have HN0 := hid (rg_own encU_ok hOg)
  have HND := hid (up_nodup hU)
  clear C1 hU hx hOg hk2 HD1 HK1 HH c0 c1
  obtain ⟨ra, rc, rfl, hc1, hc2, -, -⟩ := HN0.out
  have HP : Hid (0 < xs.length → ∃ g o, ra = some ⟨g, o, none⟩) := hid (fun hp => by
    obtain ⟨g, o, c, e⟩ := rg_pos HN0.out hp
    injection e with e1
    exact ⟨g, o, e1⟩)
  have HG : Hid (∀ i, i < xs.length → ∃ y, xs[i]? = some y) := hid (fun i hi => ⟨xs[i], List.getElem?_eq_getElem hi⟩)
  have HTT : Hid (xs.take xs.length = xs) := hid List.take_length
  have hq3 : xs.length ≤ 256 := HL.out
  have HB0 : Hid (DbM w2 X n m (cutM n h now (xs.take 0))) := hid (by rw [List.take_zero, cut_nil]; exact HD2.out)
  have HE0 : Hid (Og encN 3 72 w2 w2.heap.size (.slice none 0 0) (nwsM n h now (xs.take 0))) := hid (og_nil _ _ _ _ _)
  have HTs : Hid (w.heap.size ≤ w2.heap.size) := hid HT2.out.2.2.1
  have hzm := zeroM
  generalize hq : xs.length = q at *
  have HQ := hid hq
  clear HD2 HN0 hc1 hc2 hq
  go_wp2_with fail
  go_loopw [5, 18] (fun nv iv wr => ∃ i : Nat, i ≤ q ∧ iv = .int .i64 (i : Int) ∧ Hid (DbM wr X n m (cutM n h now (xs.take i))) ∧ Hid (Og encN 3 72 wr w2.heap.size nv (nwsM n h now (xs.take i))) ∧ Hid (Og encU 1 5 wr w1.heap.size (.slice ra q rc) xs) ∧ Hid (Tm m w wr) ∧ Hid (w2.heap.size ≤ wr.heap.size)) (fun _ iv _ => q - (intOf iv).toNat)
  case atStart => exact ⟨0, Nat.zero_le _, rfl, HB0, HE0, HO, HT2, hid (Nat.le_refl _)⟩
  case round =>
    obtain ⟨i, hi, rfl, HD, HE, HR, HT, HZ⟩ := hrel
    clear HB0 HE0 HO HT2
    by_cases hlt : i < q
    · have hltz : (i : Int) < (q : Int) := by omega
      obtain ⟨x, hx⟩ := HG.out i hlt
      obtain ⟨gg, oo, rfl⟩ := HP.out (by omega)
      have hc := rg_U (rg_own encU_ok HR.out) hx
      have hTk := take_next hx
      obtain ⟨dd, hdd⟩ : ∃ dd, h x = some dd := by
        have := (HX.out x).1 (List.mem_of_getElem? hx)
        cases e : h x with
        | none => rw [e] at this; cases this
        | some d => exact ⟨d, rfl⟩
      obtain ⟨hok, hfr⟩ := HKy.out x dd hdd
      have hni : x ∉ xs.take i := fun hm => by
        have := HND.out
        rw [← List.take_append_drop i xs, List.drop_eq_getElem_cons (List.getElem?_eq_some_iff.1 hx).1] at this
        have h3 := (List.nodup_append.1 this).2.2 x hm x (by
          have := (List.getElem?_eq_some_iff.1 hx).2
          rw [this]
          simp)
        exact h3 rfl
      have hcx := cut_at (n := n) (now := now) (ys := xs.take i) hdd hni
      have hl := look_M HD.out.g hok
      rw [hcx] at hl
      simp only [Option.getD_some] at hl
      have HLn : Hid ((nwsM n h now (xs.take i)).length ≤ 256) := hid (Nat.le_trans nws_len (by rw [List.length_take]; omega))
      have HBx := hid (at_new wr #[.int .u32 dd.inc, .int .u64 dd.fr] 95)
      have hka := kept_alloc (kept_refl wr) (.cells #[.int .u32 dd.inc, .int .u64 dd.fr] 95)
      have HDa := hid (dbm_kept HD.out hka)
      have HEa := hid (og_stays HE.out hka)
      have HRa := hid (og_stays HR.out hka)
      have HTa := hid (tm_trans HT.out (tm_kept hka))
      have HZa : Hid (w2.heap.size ≤ (wr.alloc (.cells #[.int .u32 dd.inc, .int .u64 dd.fr] 95)).heap.size) := hid (Nat.le_trans HZ.out hka.2)
      obtain ⟨p0, p1⟩ := at_cells2' HD.out.a
      have C := dbover1_any (X := X) (n := n) dd now _ HDa.out.a hfr HNow.out.1 HNow.out.2
      obtain ⟨b0, b1⟩ := at_cells2' HBx.out
      have HOk := hid hok
      clear hx hka hcx hni hok hfr
      cases hov : decide (dd.fr + (n : Int) ≤ now) with
      | false =>
        rw [hov] at C
        have ho : ¬ dd.fr + (n : Int) ≤ now := by simpa using hov
        have HC2 : Hid (cutM n h now (xs.take (i + 1)) = cutM n h now (xs.take i)) := hid (by rw [hTk]; exact cut_stay hdd ho)
        have HN2 : Hid (nwsM n h now (xs.take (i + 1)) = nwsM n h now (xs.take i)) := hid (by rw [hTk]; exact nws_stay hdd ho)
        clear hov ho hdd hTk
        go_wp2_with (go_at_call 32; refine C.mono ?_; rintro e w4 ⟨rfl, k4⟩; have HK4 := hid k4; clear k4)
        go_roundw
        case rel => exact ⟨i + 1, by omega, by go_num, hid (by rw [HC2.out]; exact dbm_kept HDa.out HK4.out), hid (by rw [HN2.out]; exact og_stays HEa.out HK4.out), hid (og_stays HRa.out HK4.out), hid (tm_trans HTa.out (tm_kept HK4.out)), hid (Nat.le_trans HZa.out HK4.out.2)⟩
        case measure => simp [intOf]; omega
      | true =>
        rw [hov] at C
        have ho : dd.fr + (n : Int) ≤ now := by simpa using hov
        have HC2 : Hid (cutM n h now (xs.take (i + 1)) = del (cutM n h now (xs.take i)) x) := hid (by rw [hTk]; exact cut_over hdd ho)
        have HN2 : Hid (nwsM n h now (xs.take (i + 1)) = nwsM n h now (xs.take i) ++ [⟨x, 3, dd.inc⟩]) := hid (by rw [hTk]; exact nws_over hdd ho)
        clear hov ho hdd hTk
        go_wp2_with (first | (go_at_call 32; refine C.mono ?_; rintro e w4 ⟨rfl, k4⟩; obtain ⟨x0, x1⟩ := at_cells2' (at_kept HBx.out k4); have k5 := kept_trans k4 (kept_alloc (kept_refl w4) (.cells #[.int .u8 x, .int .u8 3, .int .u32 dd.inc] 72)); have HD5 := hid (dbm_kept HDa.out k5); have HE5 := hid (og_stays HEa.out k5); have HR5 := hid (og_stays HRa.out k5); have HT5 := hid (tm_trans HTa.out (tm_kept k5)); have HZ5 := hid (Nat.le_trans HZa.out k5.2); have HAl := hid (rg_alone encN_ok (y := (⟨x, 3, dd.inc⟩ : Nw)) (at_new w4 #[.int .u8 x, .int .u8 3, .int .u32 dd.inc] 72)); clear k4 k5 C) | (at_builtin; go_must (refine wpList_gapp rfl (.tmp 33) (.tmp 39) rfl encN_ok tyN (by decide) w2.heap.size _ _ _ [⟨x, 3, dd.inc⟩] rfl HE5.out rfl HAl.out (by have := HLn.out; simp; omega) HZ5.out ?_; intro v6 w6 hown6 hgrow6 hnil6; have HD6 := hid (dbm_row HD5.out HE5.out hgrow6); have HR6 := hid (og_beside HR5.out HE5.out (by decide) hgrow6); have HT6 := hid (tm_row HT5.out HE5.out HTs.out hgrow6); have HE6 := hid hown6; have HZ6 := hid (Nat.le_trans HZ5.out hgrow6.size); obtain ⟨w7, hdel, g7, t7⟩ := del_M HD6.out.g HOk.out 0; obtain ⟨y0, y1⟩ := at_cells2' HD6.out.a; have HD7 := hid (dbm_turned HD6.out g7 t7); have HE7 := hid (og_turned HE6.out t7); have HR7 := hid (og_turned HR6.out t7); have HT7 := hid (tm_trans HT6.out (tm_turned t7)); have HZ7 := hid (Nat.le_trans HZ6.out t7.grown.size); clear hown6 hgrow6 hnil6 g7 t7)))
        go_roundw
        case rel => exact ⟨i + 1, by omega, by go_num, hid (by rw [HC2.out]; exact HD7.out), hid (by rw [HN2.out]; exact HE7.out), HR7, HT7, HZ7⟩
        case measure => simp [intOf]; omega
    · have he : i = q := by omega
      have hltz : ¬ (i : Int) < (q : Int) := by omega
      have HI : Hid (xs.take i = xs) := hid (by rw [he]; exact HTT.out)
      clear he
      go_wp2_with fail
      go_ret
      have hE := HE.out
      have hD := HD.out
      rw [HI.out] at hE hD
      refine ⟨_, rfl, ?_, ⟨_, hD, fun x => cut_all HX.out x⟩, HT.out⟩
      rw [← nws_all HU.out HX.out (fun x d hd => (HKy.out x d hd).1)]
      exact rg_own encN_ok hE
/- The landed doubts are as they must be. -/
theorem over_n {n : Nat} {g : Int → Option Db} {h : Int → Option Dm} (hg : ∀ x, g x = dbOf n h x) (hp : ∀ x d, g x = some d → (n : Int) ≤ d.over) (hd : Du g) : ∀ x d, h x = some d → okU x ∧ 0 ≤ d.fr := fun x d hx => by
  have e : g x = some ⟨d.inc, d.fr + (n : Int)⟩ := by rw [hg x]; unfold dbOf; rw [hx]; rfl
  have h1 := hp x _ e
  have h2 := (hd x _ e).1
  exact ⟨h2, by show 0 ≤ d.fr; have : (n : Int) ≤ d.fr + (n : Int) := h1; omega⟩
theorem doubts_is : DoubtsIs DbT where
  obj := db_obj
  new_ok := fun n w h1 h2 => dbnew_ok n w h1 h2
  begin := fun X s F node inc now w ht hd h1 h2 h3 h4 h5 h6 h7 h8 => by
    obtain ⟨m, h, hM, hg, hp, hF⟩ := ht
    have eg : s.g = dbOf s.n h := funext hg
    refine (dbbegin_any node inc now w hM ⟨h3, h4⟩).mono ?_
    rintro e w' ⟨rfl, ⟨h', hM', hh⟩, t⟩
    refine ⟨F, by rw [eg], ⟨m, h', hM', fun x => by rw [eg]; exact hh x, fun x d hx => ?_, hF⟩, tm_sd hF hF t⟩
    dsimp only at hx
    split at hx
    · unfold putG at hx
      split at hx
      · injection hx with hx
        subst hx
        show (s.n : Int) ≤ now + (s.n : Int)
        omega
      · exact hp x d hx
    · exact hp x d hx
  fin := fun X s F node inc w ht hd h3 h4 h5 h6 => by
    obtain ⟨m, h, hM, hg, hp, hF⟩ := ht
    have eg : s.g = dbOf s.n h := funext hg
    refine (dbend_any node inc w hM ⟨h3, h4⟩).mono ?_
    rintro e w' ⟨rfl, ⟨h', hM', hh⟩, t⟩
    refine ⟨F, by rw [eg], ⟨m, h', hM', fun x => by rw [eg]; exact hh x, fun x d hx => ?_, hF⟩, tm_sd hF hF t⟩
    dsimp only at hx
    split at hx
    · unfold delG at hx
      split at hx
      · cases hx
      · exact hp x d hx
    · exact hp x d hx
  over := fun X s F now w ht hd h1 h2 => by
    obtain ⟨m, h, hM, hg, hp, hF⟩ := ht
    have eg : s.g = dbOf s.n h := funext hg
    refine (dbover_any now w hM (over_n hg hp hd) h1 (by omega)).mono ?_
    rintro e w' ⟨r, rfl, hr, ⟨h', hM', hh⟩, t⟩
    refine ⟨r, F, rfl, by rw [eg]; exact hr, ⟨m, h', hM', fun x => by rw [eg]; exact hh x, fun x d hx => ?_, hF⟩, tm_sd hF hF t⟩
    dsimp only at hx
    unfold leftG at hx
    split at hx
    · cases hx
    · rename_i d2 e2
      split at hx
      · cases hx
      · injection hx with hx
        subst hx
        exact hp x d2 e2
  begin_nil := prbegin_nil
  fin_nil := prend_nil
  over_nil := prover_nil
end Go.Proofs.Ytgmcjnhijgnadaa


namespace Go.Proofs.Ytgmcjnhijgnadaa
open Go.ChangeShapes Go.WideShapes Go.ChangeAt Go.RowKit
set_option linter.unusedVariables false
set_option linter.unusedSimpArgs false
set_option maxRecDepth 100000

theorem whole_all {v : Value} (t : Int) (l : List Dt) (w : World) (wt : (Lit.int .u16 t).wf = true) (h : Rg encD 4 w v l) (hl : ∀ o ∈ l, DtOk o) : Calls Try.prog 6 #[.int .u16 t, v] w fun e w' => e = .returned (.bool true) ∧ Kept w w' := whole_of probe_is doubts_is t l w wt h hl
end Go.Proofs.Ytgmcjnhijgnadaa
