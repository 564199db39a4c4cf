/- The contracts of the library's Delete of one wait, and of the landed probe's Answer. Rows have at most 1000 members. -/
import Derived.Test.YtgmcjnhijgnadaaPrCode2
namespace Go.Proofs.Ytgmcjnhijgnadaa
open Go.ChangeShapes Go.WideShapes Go.ChangeAt Go.RowKit
set_option linter.unusedVariables false
set_option linter.unusedSimpArgs false
set_option maxRecDepth 100000

theorem run_tail {P : Program} {t c : Nat} (hu : P.underlying t = some (.slice (P.elem t))) (hs : ∀ u, (sizeOf (P.elem t)).run P u = .ok c u) {G n cap k : Nat} (hk : k ≤ n) (u : World) :
    (Instr.slice t (.slice (some ⟨G, 0, none⟩) n cap) (some (.int .i64 (k : Int))) none none).run P u = .ok (.slice (some (dropA c G cap k)) (n - k) (cap - k)) u := by
  rw [run_slice_l (P := P) u t (some ⟨G, 0, none⟩) n cap hu .i64 (k : Int) (by omega) (by omega), hs]
  simp only [Result.andThen, Int.toNat_natCast, sliced, dropA]
  by_cases e : cap = k
  · rw [if_pos e, if_pos e]
  · rw [if_neg e, if_neg e]
    simp [Addr.add]
    omega
theorem over_keep {α : Type} {enc : α → List Value} {c : Nat} {cur : Array Value} {xs ys : List α} {i n : Nat} (he : Enc enc c) (hs : (xs.take i).length = i) (ht : cur.toList.take (n * c) = flatE enc xs) (hi : i ≤ n) (hl : xs.length = n) (hy : i + ys.length ≤ n) (hz : n * c ≤ cur.size) : (over cur (i * c) (flatE enc ys)).toList.take ((i + ys.length) * c) = flatE enc (xs.take i ++ ys) := by
  have h1 : i * c ≤ n * c := Nat.mul_le_mul_right _ hi
  have h2 : cur.toList.take (i * c) = flatE enc (xs.take i) := by
    rw [← flatE_take he, ← ht, List.take_take, Nat.min_eq_left h1]
  have hyl := flatE_len he ys
  unfold over
  simp only [List.append_assoc]
  have h3 : (cur.toList.take (i * c)).length = i * c := by rw [List.length_take, Array.length_toList]; omega
  rw [Nat.add_mul, flatE_app, ← h2]
  have h4 : ∀ zs : List Value, (List.take (i * c) cur.toList ++ (flatE enc ys ++ zs)).take (i * c + ys.length * c) = List.take (i * c) cur.toList ++ flatE enc ys := fun zs => by
    rw [← List.append_assoc, List.take_left']
    rw [List.length_append, h3, hyl]
  exact h4 _
theorem sizePW (u : World) : (sizeOf (Try.prog.elem 76)).run Try.prog u = .ok 2 u := by kernel_rfl
set_option maxHeartbeats 3200000 in
theorem delw_any {G n cap i m : Nat} {l : List Wt} (hl : l.length ≤ 1000) (w : World) (h : Og encW 2 86 w 0 (.slice (some ⟨G, 0, none⟩) n cap) l) (hi : i < n) (hm : n = m + 1) :
    Calls Try.prog 29 #[.slice (some ⟨G, 0, none⟩) n cap, .int .i64 (i : Int), .int .i64 ((i : Int) + 1)] w fun e w' => e = .returned (.slice (some ⟨G, 0, none⟩) m cap) ∧ Og encW 2 86 w' 0 (.slice (some ⟨G, 0, none⟩) m cap) (l.take i ++ l.drop (i + 1)) ∧ Turn G w w' := by
  obtain ⟨cur, hG, -, hln, hnc, hcm, hs, ht⟩ := og_whole h
  obtain ⟨i0, hi0, hz0, hz1, hz2⟩ := info_parts infoPW
  have hdl : (l.drop (i + 1)).length = n - (i + 1) := by rw [List.length_drop, hln]
  have htl : (l.take i).length = i := by rw [List.length_take]; omega
  have hfl := flatE_len encW_ok (l.drop (i + 1))
  -- what is cut
  have hD := rg_drop (rg_own encW_ok h) (k := i + 1) (by omega)
  have hsl := fun u => run_tail (P := Try.prog) (t := 76) (c := 2) (G := G) (n := n) (cap := cap) (k := i + 1) Try.underlying76 sizePW (by omega) u
  obtain ⟨A, hA⟩ : ∃ A, dropA 2 G cap (i + 1) = A := ⟨_, rfl⟩
  rw [hA] at hD
  simp only [hA] at hsl
  rw [show (((i + 1 : Nat)) : Int) = (i : Int) + 1 by omega] at hsl
  have hap : ∀ ty (u : World), u.heap = w.heap → (Builtin.append_ #[76, 76] ty #[.slice (some ⟨G, 0, none⟩) i cap, .slice (some A) (n - (i + 1)) (cap - (i + 1))]).run Try.prog u = .ok (.slice (some ⟨G, 0, none⟩) m cap) (u.setRow G (over cur (i * 2) (flatE encW (l.drop (i + 1))))) := fun ty u hu => by
    have hnews : ∀ j x, (flatE encW (l.drop (i + 1)))[j]? = some x → u.cell? (A.add j) = some x := fun j x hj => by
      obtain ⟨i', j', x', rfl, hx', hu'⟩ := flatE_inv encW_ok hj
      obtain ⟨a, d, e1, -, -, -, hx⟩ := hD
      injection e1 with e1
      obtain ⟨g0, o0, e4, hcell⟩ := hx (by have := (List.getElem?_eq_some_iff.1 hx').1; omega)
      rw [← e1] at e4
      injection e4 with e4
      have := hcell i' x' j' x hx' hu'
      rw [e4, addr_plus, ← Nat.add_assoc]
      unfold World.cell? at this ⊢
      rw [hu]
      exact this
    have := run_append_room (P := Try.prog) (w := u) 76 ty 86 i0 Try.underlying76 hi0 G i cap cur (by rw [hu]; exact hG) A (n - (i + 1)) (cap - (i + 1)) (flatE encW (l.drop (i + 1))) (by rw [hfl, hdl, hz1]) hnews (flatE_ones encW_ok _) (by omega) (by rw [hfl, hdl, hz1, hs]; omega)
    rw [this, hz1, show i + (n - (i + 1)) = m by omega]
    rfl
  have hov : (over cur (i * 2) (flatE encW (l.drop (i + 1)))).size = cap * 2 := by rw [over_size (by rw [hfl, hdl, hs]; omega), hs]
  have hkeep := over_keep (cur := cur) (xs := l) (ys := l.drop (i + 1)) (i := i) (n := n) encW_ok htl ht (by omega) hln (by omega) (by omega)
  rw [hdl, show i + (n - (i + 1)) = m by omega] at hkeep
  have hEnd : ∀ u : World, u.heap = w.heap → u.os = w.os → u.output = w.output → ∃ u2, (∀ ty, (Builtin.clear_ #[76] ty #[.slice (some ⟨G, m * 2, none⟩) (n - m) (cap - m)]).run Try.prog (u.setRow G (over cur (i * 2) (flatE encW (l.drop (i + 1))))) = .ok (.tuple #[]) u2) ∧ Og encW 2 86 u2 0 (.slice (some ⟨G, 0, none⟩) m cap) (l.take i ++ l.drop (i + 1)) ∧ Turn G w u2 := fun u hu ho hq => by
    have hA1 : At (u.setRow G (over cur (i * 2) (flatE encW (l.drop (i + 1))))) G (over cur (i * 2) (flatE encW (l.drop (i + 1)))) 86 := at_setRow (ds := cur) (by unfold At; rw [hu]; exact hG)
    obtain ⟨vs, hv, hr⟩ := clear_raw (i := default) (c := 2) (cp := cap - m) Try.underlying76 (zeroPW _) rfl (by decide) hA1 (o := m * 2) (n := n - m) (by omega) (by rw [hov]; omega) 0
    refine ⟨_, fun ty => hr, ?_, ?_⟩
    · have hx : (l.take i ++ l.drop (i + 1)).length = m := by rw [List.length_append, htl, hdl]; omega
      have := og_of (w := (u.setRow G (over cur (i * 2) (flatE encW (l.drop (i + 1))))).setRow G (over (over cur (i * 2) (flatE encW (l.drop (i + 1)))) (m * 2) vs)) (B := 0) (xs := l.take i ++ l.drop (i + 1)) encW_ok (at_setRow hA1) (Nat.zero_le _) (by omega) hcm (by rw [over_size (by rw [hov, hv]; omega), hov]) (by rw [hx, over_low (by rw [hov, hv]; omega) (Nat.le_refl _)]; exact hkeep)
      rw [hx] at this
      exact this
    · exact ⟨ho, hq, by rw [setRow_size, setRow_size, hu]; exact Nat.le_refl _, fun k hk hn => by rw [setRow_other hn, setRow_other hn, hu]⟩
  have HEND := hid hEnd
  have hne : ((i : Int) == (i : Int) + 1) = false := by rw [beq_eq_false_iff_ne]; omega
  have z1 : (i : Int) + 1 ≤ (n : Int) := by omega
  have z2 : (i : Int) ≤ (cap : Int) := by omega
  have z3 : (n : Int) ≤ (cap : Int) := by omega
  have z4 : ¬ cap = m := by omega
  have z5 : (m : Int) ≤ (n : Int) := by omega
  have HAP := hid hap
  clear hEnd hap hkeep hov hD hA hfl htl hdl hG hs ht h hi0 hz0 hz1 hz2 hcm hl hm
  go_enter Try.func29, Try.ntmps29
  go_wp2_with fail
  refine wp_region_noPanic ?_
  refine wp_region_held_drew (S := (fun _ => True)) (by kernel_rfl) (trivial) (fun hHeld => ?_)
  generalize hwd : w.drew = wd at *
  refine wpAnyH_take (i := 0) (v := .slice (some ⟨G, 0, none⟩) n cap) rfl (by kernel_rfl) (by kernel_rfl) (by kernel_rfl) (fun _ _ _ h => h) (Or.inl ⟨by rfl, fun w hSw => by (try dsimp only at hSw); go_simp⟩) (by assumption) ?_
  try simp only [List.getElem_toArray, List.getElem_cons_zero, List.getElem_cons_succ, Act.put, List.setIfInBounds_toArray, List.set_cons_zero, List.set_cons_succ]
  refine wpAnyH_take (i := 1) (v := .int .i64 (i : Int)) rfl (by kernel_rfl) (by kernel_rfl) (by kernel_rfl) (fun _ _ _ h => h) (Or.inl ⟨by rfl, fun w hSw => by (try dsimp only at hSw); go_simp⟩) (by assumption) ?_
  try simp only [List.getElem_toArray, List.getElem_cons_zero, List.getElem_cons_succ, Act.put, List.setIfInBounds_toArray, List.set_cons_zero, List.set_cons_succ]
  refine wpAnyH_take (i := 2) (v := .slice (some ⟨G, 0, none⟩) i cap) rfl (by kernel_rfl) (by kernel_rfl) (by kernel_rfl) (fun _ _ _ h => h) (Or.inl ⟨by rfl, fun w hSw => by (try dsimp only at hSw); go_simp⟩) (by assumption) ?_
  try simp only [List.getElem_toArray, List.getElem_cons_zero, List.getElem_cons_succ, Act.put, List.setIfInBounds_toArray, List.set_cons_zero, List.set_cons_succ]
  refine wpAnyH_take (i := 3) (v := .slice (some ⟨G, 0, none⟩) n cap) rfl (by kernel_rfl) (by kernel_rfl) (by kernel_rfl) (fun _ _ _ h => h) (Or.inl ⟨by rfl, fun w hSw => by (try dsimp only at hSw); go_simp⟩) (by assumption) ?_
  try simp only [List.getElem_toArray, List.getElem_cons_zero, List.getElem_cons_succ, Act.put, List.setIfInBounds_toArray, List.set_cons_zero, List.set_cons_succ]
  refine wpAnyH_take (i := 4) (v := .int .i64 ((i : Int) + 1)) rfl (by kernel_rfl) (by kernel_rfl) (by kernel_rfl) (fun _ _ _ h => h) (Or.inl ⟨by rfl, fun w hSw => by (try dsimp only at hSw); go_simp⟩) (by assumption) ?_
  try simp only [List.getElem_toArray, List.getElem_cons_zero, List.getElem_cons_succ, Act.put, List.setIfInBounds_toArray, List.set_cons_zero, List.set_cons_succ]
  refine wpAnyH_take (i := 5) (v := .slice (some A) (n - (i + 1)) (cap - (i + 1))) rfl (by kernel_rfl) (by kernel_rfl) (by kernel_rfl) (fun _ _ _ h => h) (Or.inl ⟨by rfl, fun w hSw => by (try dsimp only at hSw); go_simp⟩) (by assumption) ?_
  try simp only [List.getElem_toArray, List.getElem_cons_zero, List.getElem_cons_succ, Act.put, List.setIfInBounds_toArray, List.set_cons_zero, List.set_cons_succ]
  refine wpAnyH_ready (rs := [6]) (by kernel_rfl) (by simp) ?_
  refine AllReadyH.cons (i := 6) rfl (fun K hK => ?_) AllReadyH.nil
  refine op_run (.tmp 22) (.tmp 25) 76 rfl _ _ _ rfl rfl (HAP.out _ wd (by rw [← hwd]; rfl)) ?_
  have hS : True := trivial
  clear hHeld
  show K _ _
  refine hK.out _ _ (trivial) (fun hHeld => ?_)
  clear hK K
  try simp only [List.getElem_toArray, List.getElem_cons_zero, List.getElem_cons_succ, Act.put, List.setIfInBounds_toArray, List.set_cons_zero, List.set_cons_succ]
  refine wpAnyH_take (i := 7) (v := .slice (some ⟨G, 0, none⟩) m cap) rfl (by kernel_rfl) (by kernel_rfl) (by kernel_rfl) (fun _ _ _ h => h) (Or.inl ⟨by rfl, fun w hSw => by (try dsimp only at hSw); go_simp⟩) (by assumption) ?_
  try simp only [List.getElem_toArray, List.getElem_cons_zero, List.getElem_cons_succ, Act.put, List.setIfInBounds_toArray, List.set_cons_zero, List.set_cons_succ]
  refine wpAnyH_done (by kernel_rfl) ?_ _
  refine NoPanic.normal ?_
  clear hHeld hS
  obtain ⟨u2, hcl, ho2, ht2⟩ := HEND.out wd (by rw [← hwd]; rfl) (by rw [← hwd]; rfl) (by rw [← hwd]; rfl)
  have HO2 := hid ho2
  have HT2 := hid ht2
  clear ho2 ht2
  go_wp2_with fail
  go_ret
  exact ⟨rfl, HO2.out, HT2.out⟩
/- Waits without one. -/
theorem filter_one : ∀ {l : List Wt} {a : Int} {i : Nat}, fstW l a i → (l.map Wt.node).Nodup → l.filter (fun q => q.node != a) = l.take i ++ l.drop (i + 1)
  | [], a, i, h, _ => by have := h.1; simp at this
  | y :: l, a, 0, h, hn => by
    obtain ⟨-, ⟨q, hq, e⟩, -⟩ := h
    simp at hq
    subst hq
    rw [List.map_cons, List.nodup_cons] at hn
    simp only [List.filter_cons, e, bne_self_eq_false, Bool.false_eq_true, if_false, List.take_zero, List.nil_append, Nat.zero_add, List.drop_one, List.tail_cons]
    refine List.filter_eq_self.2 (fun x hx => ?_)
    rw [bne_iff_ne]
    rintro rfl
    exact hn.1 (by rw [e]; exact List.mem_map.2 ⟨x, hx, rfl⟩)
  | y :: l, a, i + 1, h, hn => by
    obtain ⟨h1, ⟨q, hq, e⟩, h3⟩ := h
    have hy := h3 0 y (by omega) rfl
    rw [List.map_cons, List.nodup_cons] at hn
    have ih := filter_one (l := l) (a := a) (i := i) ⟨by simpa using h1, ⟨q, by simpa using hq, e⟩, fun j q hj hq => h3 (j + 1) q (by omega) (by simpa using hq)⟩ hn.2
    simp only [List.filter_cons, bne_iff_ne, ne_eq, hy, not_false_eq_true, if_true, List.take_succ_cons, List.cons_append, List.drop_succ_cons, ih]
theorem ag_filter (t : Nat) (a : Int) (ws : List Wt) : agW t (ws.filter (fun q => q.node != a)) = (agW t ws).filter (fun q => q.node != a) := by
  unfold agW
  rw [List.filter_map]
  rfl
theorem ag_nodes (t : Nat) (ws : List Wt) : (agW t ws).map Wt.node = ws.map Wt.node := by unfold agW; rw [List.map_map]; rfl
theorem isW_ag (t : Nat) (ws : List Wt) (a : Int) : isW (agW t ws) a = isW ws a := by unfold isW; rw [ag_nodes]
theorem isW_no {l : List Wt} {a : Int} (h : ∀ (j : Nat) (q : Wt), l[j]? = some q → q.node ≠ a) : isW l a = false := by
  unfold isW
  rw [decide_eq_false_iff_not]
  intro hm
  obtain ⟨q, hq, e⟩ := List.mem_map.1 hm
  obtain ⟨j, hj⟩ := List.mem_iff_getElem?.1 hq
  exact h j q hj e
theorem isW_yes {l : List Wt} {a : Int} {i : Nat} (h : fstW l a i) : isW l a = true := by
  obtain ⟨-, ⟨q, hq, e⟩, -⟩ := h
  exact isW_in hq e
def AnsC (X : Nat) (p : Pb) (a : Int) (F : Nat → Prop) (w : World) (e : Ending) (w' : World) : Prop := ∃ F', e = .returned (.bool (isW p.waits a)) ∧ PrT w' X (ansP p a) F' ∧ Sd F w F' w'
theorem filter_none {l : List Wt} {a : Int} (h : ∀ (j : Nat) (q : Wt), l[j]? = some q → q.node ≠ a) : l.filter (fun q => q.node != a) = l := List.filter_eq_self.2 (fun x hx => by
  obtain ⟨j, hj⟩ := List.mem_iff_getElem?.1 hx
  rw [bne_iff_ne]
  exact h j x hj)
set_option maxHeartbeats 3200000 in
theorem pranswer_any (X : Nat) (p : Pb) (F : Nat → Prop) (a : Int) (w : World) (h : PrT w X p F) (hw : p.waits.length ≤ 256) (hn : (p.waits.map Wt.node).Nodup) : Calls Try.prog 15 #[.pointer (some ⟨X, 0, none⟩), .int .u8 a] w (AnsC X p a F w) := by
  obtain ⟨rv, wv, hX, hR, hW, hF⟩ := h
  have hll : (agW p.ticks p.waits).length ≤ 256 := by unfold agW; rw [List.length_map]; exact hw
  have hC := waitof_any (by omega) a w hX (rg_own encW_ok hW)
  have HX := hid hX
  have HR := hid hR
  have HW := hid hW
  have HF := hid hF
  have HL := hid hll
  have HN : Hid (((agW p.ticks p.waits).map Wt.node).Nodup) := hid (by rw [ag_nodes]; exact hn)
  clear hX hR hW hF hll hn hw
  go_enter Try.func15, Try.ntmps15
  go_wp2_with fail
  refine hC.mono ?_
  rintro e w1 ⟨z, rfl, hz, k1⟩
  have HK := hid k1
  clear hC k1
  rcases hz with ⟨rfl, hz⟩ | ⟨i, rfl, hz⟩
  · have HZ := hid hz
    clear hz
    go_wp2_with fail
    go_ret
    refine ⟨F, says_bool ?_, ⟨rv, wv, at_kept HX.out HK.out, og_stays HR.out HK.out, ?_, HF.out⟩, sd_kept HK.out⟩
    · rw [← isW_ag p.ticks, isW_no HZ.out]
    · have e : agW (ansP p a).ticks (ansP p a).waits = agW p.ticks p.waits := (ag_filter p.ticks a p.waits).trans (filter_none HZ.out)
      rw [e]
      exact og_stays HW.out HK.out
  · have HZ := hid hz
    have hi := hz.1
    have hX1 := at_kept HX.out HK.out
    have hW1 := og_stays HW.out HK.out
    have hR1 := og_stays HR.out HK.out
    have hln0 : ∃ m, (agW p.ticks p.waits).length = m + 1 := ⟨(agW p.ticks p.waits).length - 1, by omega⟩
    obtain ⟨m, hm⟩ := hln0
    obtain ⟨G, cap, rfl⟩ : ∃ G cap, wv = .slice (some ⟨G, 0, none⟩) (agW p.ticks p.waits).length cap := by
      rcases HW.out.2 with ⟨_, h0⟩ | ⟨g, cc, cur, e, _⟩
      · omega
      · exact ⟨g, cc, e⟩
    have hD := delw_any (by have := HL.out; omega) w1 hW1 hi hm
    obtain ⟨cs, hcs⟩ := og_type hW1
    have nXG : X ≠ G := at_ne hX1 hcs (by decide)
    obtain ⟨q0, q1, q2, q3⟩ := at_cells4 hX1
    have hEnd : ∀ w2, Og encW 2 86 w2 0 (.slice (some ⟨G, 0, none⟩) m cap) ((agW p.ticks p.waits).take i ++ (agW p.ticks p.waits).drop (i + 1)) → Turn G w1 w2 → At w2 X #[.int .u8 p.self, rv, .int .i64 (p.place : Int), .slice (some ⟨G, 0, none⟩) (agW p.ticks p.waits).length cap] 78 ∧ AnsC X p a F w (.returned (.bool true)) (w2.setCell ⟨X, 3, none⟩ (.slice (some ⟨G, 0, none⟩) m cap)) := fun w2 o2 t2 => by
      have hX2 := at_turn hX1 t2 nXG
      refine ⟨hX2, F, says_bool ?_, ⟨rv, .slice (some ⟨G, 0, none⟩) m cap, at_set hX2 3 _, ?_, ?_, fun b => HF.out b⟩, ⟨⟨?_, ?_, ?_, fun b hb hf => ?_⟩, fun b hb => .inl hb⟩⟩
      · rw [← isW_ag p.ticks, isW_yes HZ.out]
      · refine og_block hR1 (fun g cur hg ha => ?_)
        exact (Below.heap_setCell _ _ _ _ (at_ne ha hX1 (by decide))).trans (t2.2.2.2 g (at_lt ha) (at_ne ha hcs (by decide)))
      · have e : agW (ansP p a).ticks (ansP p a).waits = (agW p.ticks p.waits).take i ++ (agW p.ticks p.waits).drop (i + 1) := (ag_filter p.ticks a p.waits).trans (filter_one HZ.out HN.out)
        rw [e]
        refine og_block o2 (fun g cur hg ha => ?_)
        exact Below.heap_setCell _ _ _ _ (by
          injection hg with hg
          have : G = g := by simpa using hg
          rw [← this]
          exact Ne.symm nXG)
      · exact t2.1.trans (kept_os HK.out)
      · exact t2.2.1.trans (kept_output HK.out)
      · rw [World.size_setCell]
        exact Nat.le_trans HK.out.2 t2.2.2.1
      · have h1 : b ≠ X := fun e => hf ((HF.out b).2 (.inl e))
        have h2 : b ≠ G := fun e => hf ((HF.out b).2 (.inr (.inr (by rw [e]; rfl))))
        exact (Below.heap_setCell _ _ _ _ h1).trans ((t2.2.2.2 b (Nat.lt_of_lt_of_le hb HK.out.2) h2).trans (kept_block HK.out hb))
    have HEnd := hid hEnd
    have hwi : IntKind.i64.wrap ((i : Int) + 1) = (i : Int) + 1 := IntWalk.i64_in _ (by have := HL.out; omega)
    have hiz : ¬ (i : Int) < 0 := by omega
    clear hz hi hEnd hX1 hW1 hR1 hcs nXG
    generalize (agW p.ticks p.waits).length = n at *
    clear hm
    go_wp2_with fail
    refine hD.mono ?_
    rintro e w2 ⟨rfl, o2, t2⟩
    obtain ⟨hx2, he2⟩ := HEnd.out w2 o2 t2
    obtain ⟨p0, p1, p2, p3⟩ := at_cells4 hx2
    have pf := at_frozen hx2
    have HE2 := hid he2
    clear o2 t2 he2 hx2 hD q0 q1 q2 q3
    go_wp2_with fail
    go_ret
    exact HE2.out
end Go.Proofs.Ytgmcjnhijgnadaa
