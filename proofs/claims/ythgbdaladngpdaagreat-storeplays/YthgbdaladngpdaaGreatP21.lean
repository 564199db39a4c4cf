/- The reference's purge. The reference's look at a key that is used thereby. What the reference's Put needs: parts of rows, what it answers, a floor that is raised. -/
import Derived.Test.YthgbdaladngpdaaGreatP20
/- The reference's purge. -/
namespace Go.Proofs.YthgbdaladngpdaaGreat
open Go.ChangeShapes Go.WideShapes Go.ChangeAt Go.RowKit
open Go.Proofs.YthgbdaladngpdaaGreat.Whl (Tn tn_kept tn_refl tn_trans tn_set tn_alloc at_tn kept_tn It)
set_option linter.unusedVariables false
set_option linter.unusedSimpArgs false
set_option maxRecDepth 100000

theorem exec_load36 {op : Oper} {act : Act} {w : World} (x : Operand) {Z : Nat} {cs : Array Value} (ho : op.op = .load 36 x) (hx : act.eval x = .pointer (some ⟨Z, 0, none⟩)) (hld : (loadVar 36 ⟨Z, 0, none⟩).run Tryz.prog w = .ok (.agg cs) w) : (execOp act.eval op).run Tryz.prog w = .ok (.value (.agg cs)) w := by
  unfold execOp
  simp only [ho, hx, Instr.loadAt, Instr.sureAddr, Sem.run_bind, Sem.run_pure, Result.andThen_ok, hld]
theorem wp_store36 {op : Oper} {act : Act} {w : World} {K : Act → World → Prop} {Q : Exit → Act → World → Prop} (x y : Operand) (ho : op.op = .store 36 x y) (Z : Nat) (hx : act.eval x = .pointer (some ⟨Z, 0, none⟩)) (cs : Array Value) (hy : act.eval y = .agg cs) (w2 : World)
    (hst : (storeVar 36 ⟨Z, 0, none⟩ (.agg cs)).run Tryz.prog w = .ok () w2) (h : K (act.put op.dst undef) w2) : op.wp Tryz.prog act w K Q := by
  unfold Oper.wp execOp
  simp only [ho, hx, hy, Instr.storeAt, Instr.sureAddr, Sem.run_bind, Sem.run_pure, Result.andThen_ok, hst]
  exact h
theorem at_setRow_other {w : World} {X Z : Nat} {cs ds : Array Value} {T : Nat} (h : At w X ds T) (hn : X ≠ Z) : At (w.setRow Z cs) X ds T := by
  unfold At at *
  rw [setRow_other hn]; exact h
theorem ret_facts {w wz : World} {Z Zr : Nat} {cs ds : Array Value} {v : Value} {fl : Nat → Stp} {c : Cf} {ev : Nat} (hk : Kept w wz) (hA : At wz Z cs 36) (hB : At wz Zr ds 36) (hd : ds.size = 197) (hs : Sv cs v fl c ev) (hn : Z ≠ Zr) (hw : w.heap.size ≤ Zr) :
    ((storeVar 36 ⟨Zr, 0, none⟩ (.agg cs)).run Tryz.prog wz.drew = .ok () (wz.drew.setRow Zr cs)) ∧ ((loadVar 36 ⟨Zr, 0, none⟩).run Tryz.prog (wz.drew.setRow Zr cs) = .ok (.agg cs) (wz.drew.setRow Zr cs)) ∧ At (wz.drew.setRow Zr cs) Z cs 36 ∧ Kept w (wz.drew.setRow Zr cs) ∧ At wz.drew Z cs 36 := by
  have hA' : At wz.drew Z cs 36 := hA
  have hB' : At wz.drew Zr ds 36 := hB
  have hk' : Kept w wz.drew := hk
  exact ⟨store36 hB' hd hs, load36 (at_setRow hB') hs, at_setRow_other hA' hn, kept_setRow hk' hw cs, hA'⟩
theorem own_tnL {w w' : World} {B : Nat} {v : Value} {L : List R} {F : Nat → Prop} (h : Own w B v L) (t : Tn F w w') (hF : ∀ k, F k → k < B) : Own w' B v L := by
  refine ⟨⟨h.1.1, ?_⟩, h.2⟩
  rcases h.1.2 with hn | ⟨g, cap, cur, rfl, hb, hg, rest⟩
  · exact .inl hn
  · exact .inr ⟨g, cap, cur, rfl, hb, (t.2.2.2 g (at_lt hg) (fun hf => by have := hF g hf; omega)).trans hg, rest⟩
/- Where the row of what is given back lies: where it lay, or in a place that was not there. -/
def RowNew (w : World) (cs cs' : Array Value) : Prop := cs' = cs ∨ ∀ q n cap, cs'[0]? = some (.slice (some ⟨q, 0, none⟩) n cap) → w.heap.size ≤ q
theorem row_new {w w' : World} {cs cs' : Array Value} {v : Value} {fl : Nat → Stp} {c : Cf} {ev B : Nat} {L : List R} (hs : Sv cs' v fl c ev) (ho : Own w' B v L) (hB : w.heap.size ≤ B) : RowNew w cs cs' := Or.inr (fun q n cap h => by
  obtain ⟨g, cp, e, hb, _⟩ := own_is ho
  rw [hs.row, e] at h
  injection h with h
  injection h with h1 h2 h3
  injection h1 with h1
  injection h1 with h1
  omega)
def PurR (c : Cf) (s : MS) (cs : Array Value) (now : Int) (w : World) (e : Ending) (w' : World) : Prop := ∃ cs', e = .returned (.tuple #[.int .i64 ((s.L.length - (purgeS c s now).L.length : Nat) : Int), .agg cs']) ∧ Kept w w' ∧ RS w' cs' c (purgeS c s now) ∧ RowNew w cs cs'
theorem pur_yes {L : List R} {j : Nat} {r : R} {c : Cf} {now : Int} (h : L[j]? = some r) (hk : now < r.s.p + (c.K : Int)) : (L.take (j + 1)).filter (fun r => decide (now < r.s.p + (c.K : Int))) = (L.take j).filter (fun r => decide (now < r.s.p + (c.K : Int))) ++ [r] := by
  rw [take_snoc h, List.filter_append, List.filter_cons_of_pos (by simpa using hk), List.filter_nil]
theorem pur_no {L : List R} {j : Nat} {r : R} {c : Cf} {now : Int} (h : L[j]? = some r) (hk : ¬ now < r.s.p + (c.K : Int)) : (L.take (j + 1)).filter (fun r => decide (now < r.s.p + (c.K : Int))) = (L.take j).filter (fun r => decide (now < r.s.p + (c.K : Int))) := by
  rw [take_snoc h, List.filter_append, List.filter_cons_of_neg (by simpa using hk), List.filter_nil, List.append_nil]
set_option maxHeartbeats 6400000 in
theorem refpurge_any {cs : Array Value} {c : Cf} {s : MS} (hc : c.may) (hl : s.L.length ≤ 1024) (hm : ∀ r ∈ s.L, mayR r = true) (hok : ∀ r ∈ s.L, r.ok) (now : Int) (w : World) (h : RS w cs c s) :
    Calls Tryz.prog 20 #[.agg cs, .int .u64 now] w (PurR c s cs now w) := by
  obtain ⟨v, hs, hr, _⟩ := h
  obtain ⟨a, cap, rfl, hr0⟩ := id hr
  have hz := zero36
  have hsz := svn_size 0 0 0
  generalize svn 0 0 0 = zs at hz hsz
  have K0 := kept_alloc (kept_alloc (kept_refl w) (.cells cs 36)) (.cells zs 36)
  have A0 := at_kept (at_new w cs 36) (kept_alloc (kept_refl _) (.cells zs 36))
  have A1 := at_new (w.alloc (.cells cs 36)) zs 36
  obtain ⟨w0, hw0⟩ : ∃ w0, w.alloc (.cells cs 36) = w0 := ⟨_, rfl⟩
  obtain ⟨Z, hZ⟩ : ∃ Z, w.heap.size = Z := ⟨_, rfl⟩
  rw [hw0] at A0 K0 A1
  rw [hZ] at A0
  obtain ⟨w1, hw1⟩ : ∃ w1, w0.alloc (.cells zs 36) = w1 := ⟨_, rfl⟩
  obtain ⟨Z5, hZ5⟩ : ∃ Z5, w0.heap.size = Z5 := ⟨_, rfl⟩
  rw [hw1] at A0 K0 A1
  rw [hZ5] at A1
  have hZ6 : Z5 = Z + 1 := by rw [← hZ5, ← hw0, ← hZ]; simp
  have HL := hid (rdr_kept hr K0)
  obtain ⟨N, hN⟩ : ∃ N, s.L.length = N := ⟨_, rfl⟩
  rw [hN] at hl HL hs
  obtain ⟨w2, hw2⟩ : ∃ w2, w1.alloc (.cells #[] 42) = w2 := ⟨_, rfl⟩
  obtain ⟨G, hG⟩ : ∃ G, w1.heap.size = G := ⟨_, rfl⟩
  have hG6 : G = Z + 2 := by rw [← hG, ← hw1, ← hw0, ← hZ]; simp
  have K2 := kept_alloc (kept_refl w1) (.cells #[] 42)
  have A2 := at_new w1 #[] 42
  rw [hw2] at K2 A2
  rw [hG] at A2
  have HO := hid (own_zero (B := G) A2 (Nat.le_refl _))
  have HK2 := hid K2
  have c2 := (at_cell (at_kept A0 K2) 0).trans hs.row
  have HC : Hid (∀ u, Kept w1 u → u.cell? ⟨Z, 0, none⟩ = some (.slice a N cap) ∧ u.cell? ⟨Z, 195, none⟩ = some (.int .u64 (c.K : Int)) ∧ ∀ j, u.frozen? ⟨Z, j, none⟩ = false) := hid (fun u ku => ⟨(at_cell (at_kept A0 ku) 0).trans hs.row, (at_cell (at_kept A0 ku) 195).trans hs.K, at_frozen (at_kept A0 ku)⟩)
  have HGl : Hid (w1.heap.size ≤ G) := hid (by rw [hG]; exact Nat.le_refl _)
  have HG := hid (And.intro hG (And.intro hZ (And.intro hZ6 hG6)))
  have HK := hid K0
  have HA0 := hid A0
  have HA1 := hid A1
  have HN := hid hN
  have HMy := hid hm
  have HOk := hid hok
  have HS := hid hs
  have HZs := hid hsz
  have hK1 := hc.2.2.2.2.2
  clear A0 A1 A2 hr hr0 K0 K2 hN hm hok hs hZ6 hG6 hc hsz
  go_enter Tryz.func20, Tryz.ntmps20
  go_wp2_with fail
  clear hw0 hw1 hw2 c2 hZ hZ5 hG hz
  go_loopw [6, 7, 13] (fun v _ i wr => ∃ (j g n p : Nat) (O : List R), j ≤ N ∧ i = .int .i64 (j : Int) ∧ v = .slice (some ⟨g, 0, none⟩) n p ∧ n ≤ j ∧ Hid (Own wr G (.slice (some ⟨g, 0, none⟩) n p) O) ∧ Hid (O = (s.L.take j).filter (fun r => decide (now < r.s.p + (c.K : Int)))) ∧ Hid (Kept w1 wr)) (fun _ _ i _ => N - (intOf i).toNat)
  case atStart => exact ⟨0, G, 0, 0, [], Nat.zero_le _, rfl, rfl, Nat.le_refl _, HO, hid rfl, HK2⟩
  case round =>
    clear HO HK2
    obtain ⟨j, g, n, p, O, hj, rfl, rfl, hnj, HO, HE, HKr⟩ := hrel
    obtain ⟨c0, cK, cf⟩ := HC.out wr HKr.out
    have HnO : Hid (O.length = n) := hid (rdr_at (rdl_own HO.out).1).1
    by_cases hlt : j < N
    · have HLr := hid (rdr_kept HL.out HKr.out)
      obtain ⟨q, rfl, r, hr, r0, r1, r2, r3, r4, r5, r6, r7⟩ := (rdr_at HLr.out).2 j hlt
      have hq := idxR q N cap j hlt (by omega)
      have hp1 := may_p (HMy.out r (List.mem_of_getElem? hr))
      have hp0 := (HOk.out r (List.mem_of_getElem? hr)).2.1.1
      have hwr : IntKind.u64.wrap (r.s.p + (c.K : Int)) = r.s.p + (c.K : Int) := by rw [IntKind.wrap_u64]; omega
      clear hp1 hp0
      by_cases he : now < r.s.p + (c.K : Int)
      · have hd : decide (now < r.s.p + (c.K : Int)) = true := decide_eq_true he
        have HEn := hid (pur_yes hr he)
        have HC8 : Hid (∀ u, Kept w1 u → C8 u q (j * 8) r) := hid (fun u ku => by
          obtain ⟨q2, e2, r2', h2, c8⟩ := (rdr_at (rdr_kept HL.out ku)).2 j hlt
          injection e2 with e2
          injection e2 with e2
          rw [hr] at h2
          injection h2 with h2
          rw [e2, h2]; exact c8)
        clear he hr r2 r3 r4 r5 r6 r7 r0 cf
        go_wp2_with fail
        go_quiet (fail)
        have HK3 := hid (kept_trans HKr.out (kept_drewN (kept_refl wr) nq))
        have HO3 := hid (own_kept HO.out (kept_drewN (kept_refl wr) nq))
        clear c0 cK r1 HLr hwr hd
        generalize wr.drewN nq = w3 at *
        obtain ⟨r0, r1, r2, r3, r4, r5, r6, r7⟩ := HC8.out w3 HK3.out
        obtain ⟨c0, cK, cf⟩ := HC.out w3 HK3.out
        have K4 := kept_alloc HK3.out (.cells #[.string r.key, .int .u64 r.s.p, .int .u32 r.s.l, .int .u8 r.s.n, .int .u8 r.kind, .int .u32 r.flags, .int .u64 r.exp, .string r.body] 42)
        have A4 := at_new w3 #[.string r.key, .int .u64 r.s.p, .int .u32 r.s.l, .int .u8 r.s.n, .int .u8 r.kind, .int .u32 r.flags, .int .u64 r.exp, .string r.body] 42
        have HO4 := hid (own_kept HO3.out (kept_alloc (kept_refl w3) (.cells #[.string r.key, .int .u64 r.s.p, .int .u32 r.s.l, .int .u8 r.s.n, .int .u8 r.kind, .int .u32 r.flags, .int .u64 r.exp, .string r.body] 42)))
        obtain ⟨w4, hw4⟩ : ∃ w4, w3.alloc (.cells #[.string r.key, .int .u64 r.s.p, .int .u32 r.s.l, .int .u8 r.s.n, .int .u8 r.kind, .int .u32 r.flags, .int .u64 r.exp, .string r.body] 42) = w4 := ⟨_, rfl⟩
        obtain ⟨G4, hG4⟩ : ∃ G4, w3.heap.size = G4 := ⟨_, rfl⟩
        rw [hw4] at K4 A4 HO4
        rw [hG4] at A4
        have HS4 := hid (src_one A4)
        have HK4 := hid K4
        have HB4 : Hid (G ≤ w4.heap.size) := hid (by rw [← HG.out.1]; exact K4.2)
        have Hl4 : Hid (O.length + [r].length ≤ 4096) := hid (by rw [HnO.out]; simp; omega)
        clear K4 A4 cK cf
        go_wp2_with (at_builtin; refine wpList_app rfl _ _ rfl G _ _ O [r] rfl HO4.out rfl HS4.out Hl4.out HB4.out ?_; intro v6 w6 hown hgrow; obtain ⟨g6, n6, p6, rfl, H6⟩ := own_as hown; have HK6 := hid (kept_own HO4.out HK4.out HGl.out hgrow); have HO6 := hid hown; clear hown hgrow)
        have hn6 : n6 ≤ j + 1 := by
          have e1 := H6.out.1
          rw [List.length_append, HnO.out, List.length_singleton] at e1
          omega
        go_roundw
        case rel => exact ⟨j + 1, g6, n6, p6, O ++ [r], by omega, by go_num, rfl, hn6, HO6, hid (by rw [HEn.out, ← HE.out]), HK6⟩
        case measure => simp [intOf]; omega
      · have hd : decide (now < r.s.p + (c.K : Int)) = false := decide_eq_false he
        have HEn := hid (pur_no hr he)
        clear he hr r2 r3 r4 r5 r6 r7 r0 cf
        go_wp2_with fail
        go_quiet (fail)
        have HK3 := hid (kept_trans HKr.out (kept_drewN (kept_refl wr) nq))
        have HO3 := hid (own_kept HO.out (kept_drewN (kept_refl wr) nq))
        clear c0 cK r1 HLr hwr hd
        generalize wr.drewN nq = w3 at *
        go_wp2_with fail
        go_roundw
        case rel => exact ⟨j + 1, g, n, p, O, by omega, by go_num, rfl, by omega, HO3, hid (by rw [HEn.out, ← HE.out]), HK3⟩
        case measure => simp [intOf]; omega
    · have hjN : j = N := by omega
      obtain ⟨w5, hw5⟩ : ∃ w5, wr.setCell ⟨Z, 0, none⟩ (.slice (some ⟨g, 0, none⟩) n p) = w5 := ⟨_, rfl⟩
      have HT5 : Hid (Tn (fun k => k = Z) wr w5) := hid (by rw [← hw5]; exact tn_set (F := fun k => k = Z) tn_refl (.inl rfl) _ _)
      have HSv := hid (sv_row HS.out (.slice (some ⟨g, 0, none⟩) n p) rfl)
      have A5 : At w5 Z (cs.setIfInBounds 0 (.slice (some ⟨g, 0, none⟩) n p)) 36 := by rw [← hw5]; exact at_set (at_kept HA0.out HKr.out) 0 _
      have B5 : At w5 Z5 zs 36 := at_tn (at_kept HA1.out HKr.out) HT5.out (by have := HG.out; omega)
      have K5 : Kept w w5 := kept_tn (kept_trans HK.out HKr.out) (fun k hk => by rw [hk, HG.out.2.1]; exact Nat.le_refl _) HT5.out
      obtain ⟨f1, f2, f3, f4, f5⟩ := ret_facts K5 A5 B5 HZs.out HSv.out (by have := HG.out; omega) (by have := HG.out; omega)
      obtain ⟨m, hm⟩ : ∃ m : Nat, (N : Int) - (n : Int) = (m : Int) := ⟨N - n, by omega⟩
      have hM6 : (O.length : Int) + (m : Int) = (N : Int) := by rw [HnO.out]; omega
      have HOe : Hid (O = (purgeS c s now).L) := hid (by rw [HE.out, hjN, ← HN.out, List.take_length]; rfl)
      have HM : Hid ((m : Int) = ((s.L.length - (purgeS c s now).L.length : Nat) : Int)) := hid (by rw [← HOe.out, HN.out]; omega)
      have HO7 : Hid (Own (w5.drew.setRow Z5 (cs.setIfInBounds 0 (.slice (some ⟨g, 0, none⟩) n p))) G (.slice (some ⟨g, 0, none⟩) n p) O) := hid (own_tnL (F := fun k => k = Z ∨ k = Z5) HO.out (tn_setRow (F := fun k => k = Z ∨ k = Z5) (tn_drew (tn_mono HT5.out (fun k hk => Or.inl hk))) (Or.inl (Or.inr rfl)) _) (fun k hk => by have := HG.out; omega))
      have HRS : Hid (RS (w5.drew.setRow Z5 (cs.setIfInBounds 0 (.slice (some ⟨g, 0, none⟩) n p))) (cs.setIfInBounds 0 (.slice (some ⟨g, 0, none⟩) n p)) c (purgeS c s now)) := hid ⟨_, HSv.out, by rw [← HOe.out]; exact rdl_own HO7.out⟩
      have HF1 := hid f1
      have HF2 := hid f2
      have HF3 := hid f3
      have HF4 := hid f4
      have HF5 := hid f5
      clear f1 f2 f3 f4 f5 A5 B5 K5 cK hM6
      go_wp2_with fail
      refine wp_region_noPanic ?_
      refine wp_region_held_drew (S := (fun w' => At w' Z (cs.setIfInBounds 0 (.slice (some ⟨g, 0, none⟩) n p)) 36)) (by kernel_rfl) (HF5.out) (fun hHeld => ?_)
      generalize w5.drew = wq at *
      refine wpAnyH_take (i := 0) (v := .int .i64 (m : Int)) rfl (by kernel_rfl) (by kernel_rfl) (by kernel_rfl) (fun _ _ _ h => h) (Or.inl ⟨by rfl, fun w hSw => by (try dsimp only at hSw); go_simp⟩) (by assumption) ?_
      try simp only [List.getElem_toArray, List.getElem_cons_zero, List.getElem_cons_succ, Act.put, List.setIfInBounds_toArray, List.set_cons_zero, List.set_cons_succ]
      refine wpAnyH_take (i := 1) (v := .agg ((cs.setIfInBounds 0 (.slice (some ⟨g, 0, none⟩) n p)))) rfl (by kernel_rfl) (by kernel_rfl) (by kernel_rfl) (fun _ _ _ h => h) (Or.inl ⟨by rfl, fun w hSw => exec_load36 _ rfl rfl (load36 hSw HSv.out)⟩) (by assumption) ?_
      try simp only [List.getElem_toArray, List.getElem_cons_zero, List.getElem_cons_succ, Act.put, List.setIfInBounds_toArray, List.set_cons_zero, List.set_cons_succ]
      refine wpAnyH_take (i := 2) (v := .int .i64 (m : Int)) rfl (by kernel_rfl) (by kernel_rfl) (by kernel_rfl) (fun _ _ _ h => h) (Or.inl ⟨by rfl, fun w hSw => by (try dsimp only at hSw); go_simp⟩) (by assumption) ?_
      try simp only [List.getElem_toArray, List.getElem_cons_zero, List.getElem_cons_succ, Act.put, List.setIfInBounds_toArray, List.set_cons_zero, List.set_cons_succ]
      refine wpAnyH_ready (rs := [3]) (by kernel_rfl) (by simp) ?_
      refine AllReadyH.cons (i := 3) rfl (fun K hK => ?_) AllReadyH.nil
      rw [if_pos (by rfl)]
      refine wp_store36 _ _ rfl Z5 rfl ((cs.setIfInBounds 0 (.slice (some ⟨g, 0, none⟩) n p))) rfl (wq.setRow Z5 ((cs.setIfInBounds 0 (.slice (some ⟨g, 0, none⟩) n p)))) HF1.out ?_
      clear hHeld
      refine hK.out _ _ (HF3.out) (fun hHeld => ?_)
      clear hK K
      try simp only [List.getElem_toArray, List.getElem_cons_zero, List.getElem_cons_succ, Act.put, List.setIfInBounds_toArray, List.set_cons_zero, List.set_cons_succ]
      refine wpAnyH_done (by kernel_rfl) ?_ _
      refine NoPanic.normal ?_
      clear hHeld
      go_wp2_with fail
      exact bodyPost_ret (resU Tryz.results20 _ rfl rfl HF2.out) rfl ⟨_, by rw [← HM.out]; rfl, HF4.out, HRS.out, row_new HSv.out HO7.out (by have := HG.out; omega)⟩
end Go.Proofs.YthgbdaladngpdaaGreat

/- The reference's look at a key that is used thereby. -/
namespace Go.Proofs.YthgbdaladngpdaaGreat
open Go.ChangeShapes Go.WideShapes Go.ChangeAt Go.RowKit
open Go.Proofs.YthgbdaladngpdaaGreat.Whl (Tn tn_kept tn_refl tn_trans tn_set tn_alloc at_tn kept_tn It)
set_option linter.unusedVariables false
set_option linter.unusedSimpArgs false
set_option maxRecDepth 100000

theorem load42 {w : World} {X : Nat} {rx : Array Value} (h : At w X rx 42) (hz : rx.size = 8) : (loadVar 42 ⟨X, 0, none⟩).run Tryz.prog w = .ok (.agg rx) w :=
  run_loadVar_row _ _ 42 42 rx (0, 0) _ h Tryz.underlying42 rfl (by rw [hz]; kernel_rfl)
theorem store42 {w : World} {Y : Nat} {rx ry : Array Value} (h : At w Y ry 42) (hy : ry.size = 8) (hx : rx.size = 8) (ho : rx.all (·.oneCell') = true) : (storeVar 42 ⟨Y, 0, none⟩ (.agg rx)).run Tryz.prog w = .ok () (w.setRow Y rx) :=
  run_storeVar_row _ _ 42 42 ry rx h (by rw [hx]; kernel_rfl) (by rw [hx, hy]) ho
theorem exec_load42 {op : Oper} {act : Act} {w : World} (x : Operand) {Z : Nat} {cs : Array Value} (ho : op.op = .load 42 x) (hx : act.eval x = .pointer (some ⟨Z, 0, none⟩)) (hld : (loadVar 42 ⟨Z, 0, none⟩).run Tryz.prog w = .ok (.agg cs) w) : (execOp act.eval op).run Tryz.prog w = .ok (.value (.agg cs)) w := by
  unfold execOp
  simp only [ho, hx, Instr.loadAt, Instr.sureAddr, Sem.run_bind, Sem.run_pure, Result.andThen_ok, hld]
theorem wp_store42 {op : Oper} {act : Act} {w : World} {K : Act → World → Prop} {Q : Exit → Act → World → Prop} (x y : Operand) (ho : op.op = .store 42 x y) (Z : Nat) (hx : act.eval x = .pointer (some ⟨Z, 0, none⟩)) (cs : Array Value) (hy : act.eval y = .agg cs) (w2 : World)
    (hst : (storeVar 42 ⟨Z, 0, none⟩ (.agg cs)).run Tryz.prog w = .ok () w2) (h : K (act.put op.dst undef) w2) : op.wp Tryz.prog act w K Q := by
  unfold Oper.wp execOp
  simp only [ho, hx, hy, Instr.storeAt, Instr.sureAddr, Sem.run_bind, Sem.run_pure, Result.andThen_ok, hst]
  exact h
theorem wpList_load42 {ops : Array Oper} {rest : List Oper} {op : Oper} {act : Act} {w : World} {Q : Exit → Act → World → Prop} (hgd : op.guard = none) (x : Operand) (ho : op.op = .load 42 x) (Z : Nat) (hx : act.eval x = .pointer (some ⟨Z, 0, none⟩)) (cs : Array Value)
    (hld : (loadVar 42 ⟨Z, 0, none⟩).run Tryz.prog w = .ok (.agg cs) w) (h : wpList Tryz.prog ops Q rest (act.put op.dst (.agg cs)) w) : wpList Tryz.prog ops Q (op :: rest) act w :=
  wpList_plain hgd fun _ hK => by
    unfold Oper.wp execOp
    simp only [ho, hx, Instr.loadAt, Instr.sureAddr, Sem.run_bind, Sem.run_pure, Result.andThen_ok, hld]
    exact hK _ _ h
theorem wpList_store42 {ops : Array Oper} {rest : List Oper} {op : Oper} {act : Act} {w : World} {Q : Exit → Act → World → Prop} (hgd : op.guard = none) (x y : Operand) (ho : op.op = .store 42 x y) (Z : Nat) (hx : act.eval x = .pointer (some ⟨Z, 0, none⟩)) (cs : Array Value) (hy : act.eval y = .agg cs) (w2 : World)
    (hst : (storeVar 42 ⟨Z, 0, none⟩ (.agg cs)).run Tryz.prog w = .ok () w2) (h : wpList Tryz.prog ops Q rest (act.put op.dst undef) w2) : wpList Tryz.prog ops Q (op :: rest) act w :=
  wpList_plain hgd fun _ hK => by
    unfold Oper.wp execOp
    simp only [ho, hx, hy, Instr.storeAt, Instr.sureAddr, Sem.run_bind, Sem.run_pure, Result.andThen_ok, hst]
    exact hK _ _ h
theorem all8 (a0 a1 a2 a3 a4 a5 a6 a7 : Value) (h : a0.oneCell' = true ∧ a1.oneCell' = true ∧ a2.oneCell' = true ∧ a3.oneCell' = true ∧ a4.oneCell' = true ∧ a5.oneCell' = true ∧ a6.oneCell' = true ∧ a7.oneCell' = true) : (#[a0, a1, a2, a3, a4, a5, a6, a7] : Array Value).all (·.oneCell') = true := by
  obtain ⟨h0, h1, h2, h3, h4, h5, h6, h7⟩ := h
  simp [h0, h1, h2, h3, h4, h5, h6, h7]
theorem allR (k b : ByteArray) (x1 x2 x3 x4 x5 x6 : Int) : (#[.string k, .int .u64 x1, .int .u32 x2, .int .u8 x3, .int .u8 x4, .int .u32 x5, .int .u64 x6, .string b] : Array Value).all (·.oneCell') = true := all8 _ _ _ _ _ _ _ _ ⟨rfl, rfl, rfl, rfl, rfl, rfl, rfl, rfl⟩
/- What stands while the answer is being laid. -/
structure Rt (w wz u : World) (Z X Y Zr : Nat) (cs rx ry rz : Array Value) : Prop where
  k : Kept w u
  t : Tn (fun k => k = Y ∨ k = Zr) wz u
  a : At u Z cs 36
  x : At u X rx 42
  y : At u Y ry 42
  z : At u Zr rz 36
  bY : w.heap.size ≤ Y
  bZ : w.heap.size ≤ Zr
  n1 : Z ≠ Y
  n2 : Z ≠ Zr
  n3 : X ≠ Zr
  n4 : Y ≠ Zr
  sx : rx.size = 8
  ox : rx.all (·.oneCell') = true
  sy : ry.size = 8
  sz : rz.size = 197
section
variable {w wz u : World} {Z X Y Zr : Nat} {cs rx ry rz : Array Value} {v : Value} {fl : Nat → Stp} {c : Cf} {ev : Nat}
theorem rt_drew (h : Rt w wz u Z X Y Zr cs rx ry rz) : Rt w wz u.drew Z X Y Zr cs rx ry rz :=
  ⟨h.k, tn_drew h.t, h.a, h.x, h.y, h.z, h.bY, h.bZ, h.n1, h.n2, h.n3, h.n4, h.sx, h.ox, h.sy, h.sz⟩
theorem rt_y (h : Rt w wz u Z X Y Zr cs rx ry rz) : Rt w wz (u.setRow Y rx) Z X Y Zr cs rx rx rz :=
  ⟨kept_setRow h.k h.bY _, tn_setRow h.t (Or.inl (Or.inl rfl)) _, at_setRow_other h.a h.n1, by
    by_cases g : X = Y
    · rw [g]; exact at_setRow h.y
    · exact at_setRow_other h.x g, at_setRow h.y, at_setRow_other h.z (Ne.symm h.n4), h.bY, h.bZ, h.n1, h.n2, h.n3, h.n4, h.sx, h.ox, h.sx, h.sz⟩
theorem rt_z (h : Rt w wz u Z X Y Zr cs rx ry rz) (hs : Sv cs v fl c ev) : Rt w wz (u.setRow Zr cs) Z X Y Zr cs rx ry cs :=
  ⟨kept_setRow h.k h.bZ _, tn_setRow h.t (Or.inl (Or.inr rfl)) _, at_setRow_other h.a h.n2, at_setRow_other h.x h.n3, at_setRow_other h.y h.n4, at_setRow h.z, h.bY, h.bZ, h.n1, h.n2, h.n3, h.n4, h.sx, h.ox, h.sy, hs.size⟩
theorem rt_s42 (h : Rt w wz u Z X Y Zr cs rx ry rz) : (storeVar 42 ⟨Y, 0, none⟩ (.agg rx)).run Tryz.prog u = .ok () (u.setRow Y rx) := store42 h.y h.sy h.sx h.ox
theorem rt_s36 (h : Rt w wz u Z X Y Zr cs rx ry rz) (hs : Sv cs v fl c ev) : (storeVar 36 ⟨Zr, 0, none⟩ (.agg cs)).run Tryz.prog u = .ok () (u.setRow Zr cs) := store36 h.z h.sz hs
theorem rt_l36 (h : Rt w wz u Z X Y Zr cs rx ry cs) (hs : Sv cs v fl c ev) : (loadVar 36 ⟨Zr, 0, none⟩).run Tryz.prog u = .ok (.agg cs) u := load36 h.z hs
end
theorem at_grown {w w' : World} {B k T : Nat} {v : Value} {L : List R} {ds : Array Value} (h : Own w B v L) (g : w.grownBy w' v.ownBlock) (hk : k < B) (a : At w k ds T) : At w' k ds T :=
  (g.block k (at_lt a) (fun e => by have := (h.1.lt k e.symm).1; omega)).trans a
theorem keys_at {L : List R} (h : Keys L) {j : Nat} {r : R} (hr : L[j]? = some r) : L.take j ++ L.drop (j + 1) = woK L r.key ∧ findK L r.key = some r := by
  refine ⟨?_, find_of h (List.mem_of_getElem? hr)⟩
  have hj := (List.getElem?_eq_some_iff.1 hr).1
  have e : L = L.take j ++ r :: L.drop (j + 1) := by
    have h1 := (List.take_append_drop (j + 1) L).symm
    rw [take_snoc hr, List.append_assoc] at h1
    exact h1
  have hk : Keys (L.take j ++ r :: L.drop (j + 1)) := by rw [← e]; exact h
  obtain ⟨h1, h2, h3⟩ := List.pairwise_append.1 hk
  obtain ⟨h4, h5⟩ := List.pairwise_cons.1 h2
  have e2 : woK L r.key = woK (L.take j ++ r :: L.drop (j + 1)) r.key := by rw [← e]
  rw [e2]
  unfold woK
  rw [List.filter_append, List.filter_cons_of_neg (by simp)]
  have f1 : (L.take j).filter (fun x => decide (x.key ≠ r.key)) = L.take j := List.filter_eq_self.2 (fun x hx => by simpa using h3 x hx r (by simp))
  have f2 : (L.drop (j + 1)).filter (fun x => decide (x.key ≠ r.key)) = L.drop (j + 1) := List.filter_eq_self.2 (fun x hx => by simpa using Ne.symm (h4 x hx))
  rw [f1, f2]
def GetR (c : Cf) (s : MS) (cs : Array Value) (k : ByteArray) (w : World) (e : Ending) (w' : World) : Prop :=
  ∃ cs' r, e = .returned (.tuple #[.agg #[.string r.key, .int .u64 r.s.p, .int .u32 r.s.l, .int .u8 r.s.n, .int .u8 r.kind, .int .u32 r.flags, .int .u64 r.exp, .string r.body], .bool (findK s.L k).isSome, .agg cs']) ∧ r = (findK s.L k).getD zeroR ∧ Kept w w' ∧ RS w' cs' c (getS s k) ∧ RowNew w cs cs'
set_option maxHeartbeats 6400000 in
theorem refget_any {cs : Array Value} {c : Cf} {s : MS} (hl : s.L.length ≤ 1024) (hk : Keys s.L) (k : ByteArray) (w : World) (h : RS w cs c s) :
    Calls Tryz.prog 17 #[.agg cs, .string k] w (GetR c s cs k w) := by
  have HR := hid h
  have hz := zero36
  have hsz := svn_size 0 0 0
  generalize svn 0 0 0 = zs at hz hsz
  obtain ⟨w0, hw0⟩ : ∃ w0, w.alloc (.cells cs 36) = w0 := ⟨_, rfl⟩
  obtain ⟨Z, hZ⟩ : ∃ Z, w.heap.size = Z := ⟨_, rfl⟩
  have Ka := kept_alloc (kept_refl w) (.cells cs 36)
  have Aa := at_new w cs 36
  rw [hw0] at Ka Aa
  rw [hZ] at Aa
  obtain ⟨wb, hwb⟩ : ∃ wb, w0.alloc (.cells #[.string ⟨#[]⟩, .int .u64 0, .int .u32 0, .int .u8 0, .int .u8 0, .int .u32 0, .int .u64 0, .string ⟨#[]⟩] 42) = wb := ⟨_, rfl⟩
  obtain ⟨Y, hY⟩ : ∃ Y, w0.heap.size = Y := ⟨_, rfl⟩
  have Kb := kept_alloc (kept_refl w0) (.cells #[.string ⟨#[]⟩, .int .u64 0, .int .u32 0, .int .u8 0, .int .u8 0, .int .u32 0, .int .u64 0, .string ⟨#[]⟩] 42)
  have Ab := at_new w0 #[.string ⟨#[]⟩, .int .u64 0, .int .u32 0, .int .u8 0, .int .u8 0, .int .u32 0, .int .u64 0, .string ⟨#[]⟩] 42
  rw [hwb] at Kb Ab
  rw [hY] at Ab
  obtain ⟨w1, hw1⟩ : ∃ w1, wb.alloc (.cells zs 36) = w1 := ⟨_, rfl⟩
  obtain ⟨Zr, hZr⟩ : ∃ Zr, wb.heap.size = Zr := ⟨_, rfl⟩
  have Kc := kept_alloc (kept_refl wb) (.cells zs 36)
  have Ac := at_new wb zs 36
  rw [hw1] at Kc Ac
  rw [hZr] at Ac
  have hY6 : Y = Z + 1 := by rw [← hY, ← hw0, ← hZ]; simp
  have hZr6 : Zr = Z + 2 := by rw [← hZr, ← hwb, ← hw0, ← hZ]; simp
  have hW6 : w1.heap.size = Z + 3 := by rw [← hw1, ← hwb, ← hw0, ← hZ]; simp
  have HK := hid (kept_trans (kept_trans Ka Kb) Kc)
  have HA0 := hid (at_kept (at_kept Aa Kb) Kc)
  have HA1 := hid (at_kept Ab Kc)
  have HA2 := hid Ac
  have HG := hid (And.intro hZ (And.intro hY6 (And.intro hZr6 hW6)))
  have HRs := hid (rs_kept h HK.out)
  have HZs := hid hsz
  obtain ⟨v, hs, hr, a, cap, rfl, hc1, hc2⟩ := h
  have HLd := hid (load36 HA0.out hs)
  have HS := hid hs
  have HL : Hid (RdL w (.slice a s.L.length cap) s.L) := hid ⟨hr, a, cap, rfl, hc1, hc2⟩
  have HKs := hid hk
  have Hc := hid (And.intro hc1 hc2)
  have HC : Hid (∀ u, Kept w1 u → u.cell? ⟨Z, 0, none⟩ = some (.slice a s.L.length cap) ∧ ∀ j, u.frozen? ⟨Z, j, none⟩ = false) := hid (fun u ku => ⟨(at_cell (at_kept HA0.out ku) 0).trans HS.out.row, at_frozen (at_kept HA0.out ku)⟩)
  clear Ka Aa Kb Ab Kc Ac hY6 hZr6 hW6 hs hr hk hc1 hc2 hsz
  go_enter Tryz.func17, Tryz.ntmps17
  go_wp2_with (refine wpList_load36 rfl _ rfl Z rfl cs HLd.out ?_)
  clear hw0 hwb hw1 hZ hY hZr hz
  refine (refat_any hl k w1 HRs.out).mono ?_
  rintro e w2 ⟨z, rfl, k2, hat⟩
  have HK2 := hid k2
  clear k2
  rcases hat with ⟨rfl, hf⟩ | ⟨j, rfl, hj, r, hr, hrk⟩
  · have Hf := hid hf
    have HRt : Hid (Rt w w2 w2.drew Z Y Y Zr cs #[.string ⟨#[]⟩, .int .u64 0, .int .u32 0, .int .u8 0, .int .u8 0, .int .u32 0, .int .u64 0, .string ⟨#[]⟩] #[.string ⟨#[]⟩, .int .u64 0, .int .u32 0, .int .u8 0, .int .u8 0, .int .u32 0, .int .u64 0, .string ⟨#[]⟩] zs) := hid (rt_drew ⟨kept_trans HK.out HK2.out, tn_refl, at_kept HA0.out HK2.out, at_kept HA1.out HK2.out, at_kept HA1.out HK2.out, at_kept HA2.out HK2.out, by have := HG.out; omega, by have := HG.out; omega, by have := HG.out; omega, by have := HG.out; omega, by have := HG.out; omega, by have := HG.out; omega, rfl, allR _ _ _ _ _ _ _ _, rfl, HZs.out⟩)
    clear hf
    go_wp2_with fail
    refine wp_region_noPanic ?_
    refine wp_region_held_drew (S := (fun w' => At w' Z cs 36)) (by kernel_rfl) (HRt.out.a) (fun hHeld => ?_)
    generalize w2.drew = wq at *
    refine wpAnyH_take (i := 0) (v := .agg #[.string ⟨#[]⟩, .int .u64 0, .int .u32 0, .int .u8 0, .int .u8 0, .int .u32 0, .int .u64 0, .string ⟨#[]⟩]) rfl (by kernel_rfl) (by kernel_rfl) (by kernel_rfl) (fun _ _ _ h => h) (Or.inl ⟨by rfl, fun w hSw => by (try dsimp only at hSw); first | (go_simp; done) | kernel_rfl⟩) (by assumption) ?_
    try simp only [List.getElem_toArray, List.getElem_cons_zero, List.getElem_cons_succ, Act.put, List.setIfInBounds_toArray, List.set_cons_zero, List.set_cons_succ]
    refine wpAnyH_take (i := 1) (v := .agg cs) rfl (by kernel_rfl) (by kernel_rfl) (by kernel_rfl) (fun _ _ _ h => h) (Or.inl ⟨by rfl, fun w hSw => exec_load36 _ rfl rfl (load36 hSw HS.out)⟩) (by assumption) ?_
    try simp only [List.getElem_toArray, List.getElem_cons_zero, List.getElem_cons_succ, Act.put, List.setIfInBounds_toArray, List.set_cons_zero, List.set_cons_succ]
    refine wpAnyH_ready (rs := [2]) (by kernel_rfl) (by simp) ?_
    refine AllReadyH.cons (i := 2) rfl (fun K hK => ?_) AllReadyH.nil
    rw [if_pos (by rfl)]
    refine wp_store42 _ _ rfl Y rfl #[.string ⟨#[]⟩, .int .u64 0, .int .u32 0, .int .u8 0, .int .u8 0, .int .u32 0, .int .u64 0, .string ⟨#[]⟩] rfl (wq.setRow Y #[.string ⟨#[]⟩, .int .u64 0, .int .u32 0, .int .u8 0, .int .u8 0, .int .u32 0, .int .u64 0, .string ⟨#[]⟩]) (rt_s42 HRt.out) ?_
    clear hHeld
    refine hK.out _ _ ((rt_y HRt.out).a) (fun hHeld => ?_)
    clear hK K
    try simp only [List.getElem_toArray, List.getElem_cons_zero, List.getElem_cons_succ, Act.put, List.setIfInBounds_toArray, List.set_cons_zero, List.set_cons_succ]
    refine wpAnyH_take (i := 3) (v := .bool false) rfl (by kernel_rfl) (by kernel_rfl) (by kernel_rfl) (fun _ _ _ h => h) (Or.inl ⟨by rfl, fun w hSw => by (try dsimp only at hSw); first | (go_simp; done) | kernel_rfl⟩) (by assumption) ?_
    try simp only [List.getElem_toArray, List.getElem_cons_zero, List.getElem_cons_succ, Act.put, List.setIfInBounds_toArray, List.set_cons_zero, List.set_cons_succ]
    refine wpAnyH_ready (rs := [4]) (by kernel_rfl) (by simp) ?_
    refine AllReadyH.cons (i := 4) rfl (fun K hK => ?_) AllReadyH.nil
    rw [if_pos (by rfl)]
    refine wp_store36 _ _ rfl Zr rfl cs rfl ((wq.setRow Y #[.string ⟨#[]⟩, .int .u64 0, .int .u32 0, .int .u8 0, .int .u8 0, .int .u32 0, .int .u64 0, .string ⟨#[]⟩]).setRow Zr cs) (rt_s36 (rt_y HRt.out) HS.out) ?_
    clear hHeld
    refine hK.out _ _ ((rt_z (rt_y HRt.out) HS.out).a) (fun hHeld => ?_)
    clear hK K
    try simp only [List.getElem_toArray, List.getElem_cons_zero, List.getElem_cons_succ, Act.put, List.setIfInBounds_toArray, List.set_cons_zero, List.set_cons_succ]
    refine wpAnyH_done (by kernel_rfl) ?_ _
    refine NoPanic.normal ?_
    clear hHeld
    go_wp2_with fail
    have HE := hid (rt_z (rt_y HRt.out) HS.out)
    exact bodyPost_ret (resG Tryz.results17 _ rfl rfl rfl HE.out.y (rt_l36 HE.out HS.out)) rfl ⟨cs, zeroR, by rw [Hf.out]; rfl, by rw [Hf.out]; rfl, HE.out.k, by unfold getS; rw [Hf.out]; exact rs_kept HR.out HE.out.k, Or.inl rfl⟩
  · have hn0 : decide ((j : Int) < 0) = false := decide_eq_false (by omega)
    have HL2 := hid (rdl_kept HL.out (kept_trans HK.out HK2.out))
    obtain ⟨q, rfl, r', hr', r0, r1, r2, r3, r4, r5, r6, r7⟩ := (rdr_at HL2.out.1).2 j hj
    rw [hr] at hr'
    injection hr' with hr'
    rw [← hr'] at r0 r1 r2 r3 r4 r5 r6 r7
    clear hr' r'
    have hq := idxR q s.L.length cap j hj (by omega)
    obtain ⟨c0, cf⟩ := HC.out w2 HK2.out
    have hka := keys_at HKs.out hr
    rw [hrk] at hka
    have HKa := hid hka
    have HO : Hid (getS s k = ⟨r :: (s.L.take j ++ s.L.drop (j + 1)), s.fl, s.ev⟩) := hid (by unfold getS; rw [HKa.out.2, HKa.out.1])
    have HLj := hid hj
    clear hr hrk hka
    obtain ⟨N, hN⟩ : ∃ N, s.L.length = N := ⟨_, rfl⟩
    have HN := hid hN
    rw [hN] at c0 hq hj
    clear hN
    obtain ⟨w3, hw3⟩ : ∃ w3, w2.alloc (.cells #[.string ⟨#[]⟩, .int .u64 0, .int .u32 0, .int .u8 0, .int .u8 0, .int .u32 0, .int .u64 0, .string ⟨#[]⟩] 42) = w3 := ⟨_, rfl⟩
    obtain ⟨X, hX⟩ : ∃ X, w2.heap.size = X := ⟨_, rfl⟩
    have K3 := kept_alloc (kept_refl w2) (.cells #[.string ⟨#[]⟩, .int .u64 0, .int .u32 0, .int .u8 0, .int .u8 0, .int .u32 0, .int .u64 0, .string ⟨#[]⟩] 42)
    have A3 := at_new w2 #[.string ⟨#[]⟩, .int .u64 0, .int .u32 0, .int .u8 0, .int .u8 0, .int .u32 0, .int .u64 0, .string ⟨#[]⟩] 42
    rw [hw3] at K3 A3
    rw [hX] at A3
    have HSt := hid (store42 (rx := #[.string r.key, .int .u64 r.s.p, .int .u32 r.s.l, .int .u8 r.s.n, .int .u8 r.kind, .int .u32 r.flags, .int .u64 r.exp, .string r.body]) A3 rfl rfl (allR _ _ _ _ _ _ _ _))
    have HK4 := hid (kept_setRow K3 (Nat.le_of_eq hX) #[.string r.key, .int .u64 r.s.p, .int .u32 r.s.l, .int .u8 r.s.n, .int .u8 r.kind, .int .u32 r.flags, .int .u64 r.exp, .string r.body])
    have HA4 := hid (at_setRow (cs := #[.string r.key, .int .u64 r.s.p, .int .u32 r.s.l, .int .u8 r.s.n, .int .u8 r.kind, .int .u32 r.flags, .int .u64 r.exp, .string r.body]) A3)
    have HX : Hid (Z + 3 ≤ X ∧ X < (w3.setRow X #[.string r.key, .int .u64 r.s.p, .int .u32 r.s.l, .int .u8 r.s.n, .int .u8 r.kind, .int .u32 r.flags, .int .u64 r.exp, .string r.body]).heap.size) := hid ⟨by rw [← hX, ← HG.out.2.2.2]; exact HK2.out.2, at_lt HA4.out⟩
    generalize w3.setRow X #[.string r.key, .int .u64 r.s.p, .int .u32 r.s.l, .int .u8 r.s.n, .int .u8 r.kind, .int .u32 r.flags, .int .u64 r.exp, .string r.body] = w4 at HSt HK4 HA4 HX
    have HLd4 := hid (load42 HA4.out rfl)
    obtain ⟨w5, hw5⟩ : ∃ w5, w4.alloc (.cells #[.string r.key, .int .u64 r.s.p, .int .u32 r.s.l, .int .u8 r.s.n, .int .u8 r.kind, .int .u32 r.flags, .int .u64 r.exp, .string r.body] 42) = w5 := ⟨_, rfl⟩
    obtain ⟨G, hG⟩ : ∃ G, w4.heap.size = G := ⟨_, rfl⟩
    have K5 := kept_alloc (kept_refl w4) (.cells #[.string r.key, .int .u64 r.s.p, .int .u32 r.s.l, .int .u8 r.s.n, .int .u8 r.kind, .int .u32 r.flags, .int .u64 r.exp, .string r.body] 42)
    have A5 := at_new w4 #[.string r.key, .int .u64 r.s.p, .int .u32 r.s.l, .int .u8 r.s.n, .int .u8 r.kind, .int .u32 r.flags, .int .u64 r.exp, .string r.body] 42
    rw [hw5] at K5 A5
    rw [hG] at A5
    have HO5 := hid (own_one (B := G) A5 (Nat.le_refl _))
    have HA5 := hid (at_kept HA4.out K5)
    have HK5 := hid (kept_trans HK2.out (kept_trans HK4.out K5))
    have HG5 : Hid (X < G ∧ w1.heap.size ≤ G ∧ G ≤ w5.heap.size) := hid (by
      have h1 := (kept_trans HK2.out HK4.out).2
      have h2 := K5.2
      have h3 := HX.out
      refine ⟨?_, ?_, ?_⟩ <;> omega)
    have HL5 := hid (rdl_kept HL.out (kept_trans HK.out HK5.out))
    obtain ⟨c5, _⟩ := HC.out w5 HK5.out
    rw [HN.out] at c5
    clear K3 A3 K5 A5 cf
    go_wp2_with (first | (refine wpList_store42 rfl _ _ rfl X rfl #[.string r.key, .int .u64 r.s.p, .int .u32 r.s.l, .int .u8 r.s.n, .int .u8 r.kind, .int .u32 r.flags, .int .u64 r.exp, .string r.body] rfl w4 HSt.out ?_) | (refine wpList_load42 rfl _ rfl X rfl #[.string r.key, .int .u64 r.s.p, .int .u32 r.s.l, .int .u8 r.s.n, .int .u8 r.kind, .int .u32 r.flags, .int .u64 r.exp, .string r.body] HLd4.out ?_))
    have hwo := without_any HLj.out hl w5 HL5.out
    rw [HN.out] at hwo
    refine hwo.mono ?_
    rintro e w6 ⟨v6, rfl, k6, o6⟩
    clear hwo c0 c5 r0 r1 r2 r3 r4 r5 r6 r7 hq hw3 hw5 hX hG
    have HK6 := hid (kept_trans HK5.out k6)
    have HO6 := hid (own_kept HO5.out k6)
    have HS6 := hid (src_rdr (rdl_own o6).1)
    have HA6 := hid (at_kept HA5.out k6)
    have HB6 : Hid (G ≤ w6.heap.size) := hid (Nat.le_trans HG5.out.2.2 k6.2)
    have Hl6 : Hid ([r].length + (s.L.take j ++ s.L.drop (j + 1)).length ≤ 4096) := hid (by have := HLj.out; simp; omega)
    obtain ⟨g6, n6, p6, rfl, _⟩ := own_as o6
    clear k6 o6
    go_wp2_with (at_builtin; refine wpList_app rfl _ _ rfl G _ _ [r] (s.L.take j ++ s.L.drop (j + 1)) rfl HO6.out rfl HS6.out Hl6.out HB6.out ?_; intro v7 w7 hown hgrow; obtain ⟨g7, n7, p7, rfl, H7⟩ := own_as hown; have HK7 := hid (kept_own HO6.out HK6.out HG5.out.2.1 hgrow); have HA7 := hid (at_grown HO6.out hgrow HG5.out.1 HA6.out); have HO7 := hid hown; clear hown hgrow; obtain ⟨c7, f7⟩ := HC.out w7 HK7.out; obtain ⟨w8, hw8⟩ : ∃ w8, w7.setCell ⟨Z, 0, none⟩ (.slice (some ⟨g7, 0, none⟩) n7 p7) = w8 := ⟨_, rfl⟩)
    have HT8 : Hid (Tn (fun k => k = Z) w7 w8) := hid (by rw [← hw8]; exact tn_set (F := fun k => k = Z) tn_refl (.inl rfl) _ _)
    obtain ⟨cs', hcs'⟩ : ∃ cs', cs.setIfInBounds 0 (.slice (some ⟨g7, 0, none⟩) n7 p7) = cs' := ⟨_, rfl⟩
    have HSv := hid (sv_row HS.out (.slice (some ⟨g7, 0, none⟩) n7 p7) rfl)
    rw [hcs'] at HSv
    have A8 : At w8 Z cs' 36 := by rw [← hw8, ← hcs']; exact at_set (at_kept HA0.out HK7.out) 0 _
    have HRt : Hid (Rt w w8 w8.drew Z X Y Zr cs' #[.string r.key, .int .u64 r.s.p, .int .u32 r.s.l, .int .u8 r.s.n, .int .u8 r.kind, .int .u32 r.flags, .int .u64 r.exp, .string r.body] #[.string ⟨#[]⟩, .int .u64 0, .int .u32 0, .int .u8 0, .int .u8 0, .int .u32 0, .int .u64 0, .string ⟨#[]⟩] zs) := hid (rt_drew ⟨kept_tn (kept_trans HK.out HK7.out) (fun k hk => by rw [hk, HG.out.1]; exact Nat.le_refl _) HT8.out, tn_refl, A8, at_tn HA7.out HT8.out (by have := HX.out; omega), at_tn (at_kept HA1.out HK7.out) HT8.out (by have := HG.out; omega), at_tn (at_kept HA2.out HK7.out) HT8.out (by have := HG.out; omega), by have := HG.out; omega, by have := HG.out; omega, by have := HG.out; omega, by have := HG.out; omega, by have := HG.out; have := HX.out; omega, by have := HG.out; omega, rfl, allR _ _ _ _ _ _ _ _, rfl, HZs.out⟩)
    have HF : Hid (∀ u ry rz, Rt w w8 u Z X Y Zr cs' #[.string r.key, .int .u64 r.s.p, .int .u32 r.s.l, .int .u8 r.s.n, .int .u8 r.kind, .int .u32 r.flags, .int .u64 r.exp, .string r.body] ry rz → RS u cs' c (getS s k)) := hid (fun u ry rz hu => by
      rw [HO.out]
      refine ⟨_, HSv.out, rdl_own (own_tnL (F := fun k => k = Y ∨ k = Zr) (own_tnL (F := fun k => k = Z) HO7.out HT8.out ?_) hu.t ?_)⟩
      · intro k hk; have := HG.out; have := HG5.out; have := HX.out; omega
      · intro k hk; have := HG.out; have := HG5.out; have := HX.out; omega)
    clear A8 hcs' c7 f7 hw8
    go_wp2_with fail
    refine wp_region_noPanic ?_
    refine wp_region_held_drew (S := (fun w' => At w' Z cs' 36 ∧ At w' X #[.string r.key, .int .u64 r.s.p, .int .u32 r.s.l, .int .u8 r.s.n, .int .u8 r.kind, .int .u32 r.flags, .int .u64 r.exp, .string r.body] 42)) (by kernel_rfl) (⟨HRt.out.a, HRt.out.x⟩) (fun hHeld => ?_)
    generalize w8.drew = wq at *
    refine wpAnyH_take (i := 0) (v := .agg #[.string r.key, .int .u64 r.s.p, .int .u32 r.s.l, .int .u8 r.s.n, .int .u8 r.kind, .int .u32 r.flags, .int .u64 r.exp, .string r.body]) rfl (by kernel_rfl) (by kernel_rfl) (by kernel_rfl) (fun _ _ _ h => h) (Or.inl ⟨by rfl, fun w hSw => exec_load42 _ rfl rfl (load42 hSw.2 rfl)⟩) (by assumption) ?_
    try simp only [List.getElem_toArray, List.getElem_cons_zero, List.getElem_cons_succ, Act.put, List.setIfInBounds_toArray, List.set_cons_zero, List.set_cons_succ]
    refine wpAnyH_take (i := 1) (v := .agg cs') rfl (by kernel_rfl) (by kernel_rfl) (by kernel_rfl) (fun _ _ _ h => h) (Or.inl ⟨by rfl, fun w hSw => exec_load36 _ rfl rfl (load36 hSw.1 HSv.out)⟩) (by assumption) ?_
    try simp only [List.getElem_toArray, List.getElem_cons_zero, List.getElem_cons_succ, Act.put, List.setIfInBounds_toArray, List.set_cons_zero, List.set_cons_succ]
    refine wpAnyH_ready (rs := [2]) (by kernel_rfl) (by simp) ?_
    refine AllReadyH.cons (i := 2) rfl (fun K hK => ?_) AllReadyH.nil
    rw [if_pos (by rfl)]
    refine wp_store42 _ _ rfl Y rfl #[.string r.key, .int .u64 r.s.p, .int .u32 r.s.l, .int .u8 r.s.n, .int .u8 r.kind, .int .u32 r.flags, .int .u64 r.exp, .string r.body] rfl (wq.setRow Y #[.string r.key, .int .u64 r.s.p, .int .u32 r.s.l, .int .u8 r.s.n, .int .u8 r.kind, .int .u32 r.flags, .int .u64 r.exp, .string r.body]) (rt_s42 HRt.out) ?_
    clear hHeld
    refine hK.out _ _ (⟨(rt_y HRt.out).a, (rt_y HRt.out).x⟩) (fun hHeld => ?_)
    clear hK K
    try simp only [List.getElem_toArray, List.getElem_cons_zero, List.getElem_cons_succ, Act.put, List.setIfInBounds_toArray, List.set_cons_zero, List.set_cons_succ]
    refine wpAnyH_take (i := 3) (v := .bool true) rfl (by kernel_rfl) (by kernel_rfl) (by kernel_rfl) (fun _ _ _ h => h) (Or.inl ⟨by rfl, fun w hSw => by (try dsimp only at hSw); first | (go_simp; done) | kernel_rfl⟩) (by assumption) ?_
    try simp only [List.getElem_toArray, List.getElem_cons_zero, List.getElem_cons_succ, Act.put, List.setIfInBounds_toArray, List.set_cons_zero, List.set_cons_succ]
    refine wpAnyH_ready (rs := [4]) (by kernel_rfl) (by simp) ?_
    refine AllReadyH.cons (i := 4) rfl (fun K hK => ?_) AllReadyH.nil
    rw [if_pos (by rfl)]
    refine wp_store36 _ _ rfl Zr rfl cs' rfl ((wq.setRow Y #[.string r.key, .int .u64 r.s.p, .int .u32 r.s.l, .int .u8 r.s.n, .int .u8 r.kind, .int .u32 r.flags, .int .u64 r.exp, .string r.body]).setRow Zr cs') (rt_s36 (rt_y HRt.out) HSv.out) ?_
    clear hHeld
    refine hK.out _ _ (⟨(rt_z (rt_y HRt.out) HSv.out).a, (rt_z (rt_y HRt.out) HSv.out).x⟩) (fun hHeld => ?_)
    clear hK K
    try simp only [List.getElem_toArray, List.getElem_cons_zero, List.getElem_cons_succ, Act.put, List.setIfInBounds_toArray, List.set_cons_zero, List.set_cons_succ]
    refine wpAnyH_done (by kernel_rfl) ?_ _
    refine NoPanic.normal ?_
    clear hHeld
    go_wp2_with fail
    have HE := hid (rt_z (rt_y HRt.out) HSv.out)
    exact bodyPost_ret (resG Tryz.results17 _ rfl rfl rfl HE.out.y (rt_l36 HE.out HSv.out)) rfl ⟨cs', r, by rw [HKa.out.2]; rfl, by rw [HKa.out.2]; rfl, HE.out.k, HF.out _ _ _ HE.out, row_new HSv.out HO7.out (by have := HG.out; have := HG5.out; omega)⟩
end Go.Proofs.YthgbdaladngpdaaGreat

/- What the reference's Put needs: parts of rows, what it answers, a floor that is raised. -/
namespace Go.Proofs.YthgbdaladngpdaaGreat
open Go.ChangeShapes Go.WideShapes Go.ChangeAt Go.RowKit
open Go.Proofs.YthgbdaladngpdaaGreat.Whl (Tn tn_kept tn_refl tn_trans tn_set tn_alloc at_tn kept_tn It)
set_option linter.unusedVariables false
set_option linter.unusedSimpArgs false
set_option maxRecDepth 100000

theorem rdl_take {w : World} {a : Option Addr} {N cap : Nat} {L : List R} (h : RdL w (.slice a N cap) L) {n : Nat} (hn : n ≤ N) : RdL w (.slice a n cap) (L.take n) := by
  obtain ⟨⟨a', c', e, hr⟩, a2, c2, e2, h1, h2⟩ := h
  injection e with e3 e4 e5
  injection e2 with e6 e7 e8
  have hl : (L.take n).length = n := by rw [List.length_take]; omega
  refine ⟨⟨a, cap, by rw [hl], fun hp => ?_⟩, a, cap, by rw [hl], by omega, by omega⟩
  rw [hl] at hp
  obtain ⟨q, e9, hq, hc⟩ := hr (by omega)
  refine ⟨q, by rw [e3, e9], hq, fun i r hi => hc i r ?_⟩
  have hlt : i < n := by have := (List.getElem?_eq_some_iff.1 hi).1; omega
  rw [List.getElem?_take_of_lt hlt] at hi
  exact hi
section
variable {c : Cf} {s : MS} {r q : R} {now : Int}
theorem pk_may (h : mayR r = false) : putK c s r now = 1 := by unfold putK; rw [if_pos h]
theorem pk_old (h : mayR r = true) (ho : r.s.p + (c.K : Int) ≤ now) : putK c s r now = 8 := by unfold putK; rw [if_neg (by rw [h]; decide), if_pos ho]
theorem pk_some (h : mayR r = true) (ho : now < r.s.p + (c.K : Int)) (hf : findK s.L r.key = some q) : putK c s r now = if cmpR r q = 0 then 0 else if cmpR r q < 0 then 8 else if c.B < lenR r then 6 else 100 := by unfold putK; rw [if_neg (by rw [h]; decide), if_neg (by omega), hf]
theorem pk_none (h : mayR r = true) (ho : now < r.s.p + (c.K : Int)) (hf : findK s.L r.key = none) : putK c s r now = if lt (s.fl (rg r.key)) r.s = true then (if c.B < lenR r then 6 else 100) else 8 := by unfold putK; rw [if_neg (by rw [h]; decide), if_neg (by omega), hf]
end
theorem less_of {r q : R} (h : cmpR r q < 0) : lessR r q = true := by have := good_rec.one r q; exact decide_eq_true (by omega)
theorem less_not {r q : R} (h : ¬ cmpR r q < 0) : lessR r q = false := by exact decide_eq_false (by omega)
theorem same_of {r q : R} (hk : q.key = r.key) (h : cmpR r q = 0) : sameR q r = true := (sameR_iff q r).2 (cmpR_eq hk.symm h).symm
theorem same_not {r q : R} (h : cmpR r q ≠ 0) : sameR q r = false := by
  cases e : sameR q r with
  | false => rfl
  | true => exact absurd (by rw [(sameR_iff q r).1 e]; exact cmpR_self r) h
def PutR (c : Cf) (s : MS) (cs : Array Value) (r : R) (now : Int) (w : World) (e : Ending) (w' : World) : Prop :=
  ∃ cs', e = .returned (.tuple #[.bool (putB c s r now), .int .i64 (putE c s r now), .agg cs']) ∧ Kept w w' ∧ RS w' cs' c (putS c s r now) ∧ RowNew w cs cs'
theorem putr_keep {c : Cf} {s : MS} {r : R} {now : Int} {w u : World} {cs : Array Value} {n : Int} (hK : putK c s r now = n) (hn : n ≠ 100) (h : RS w cs c s) (k : Kept w u) : PutR c s cs r now w (.returned (.tuple #[.bool false, .int .i64 n, .agg cs])) u := by
  obtain ⟨h1, h2, h3⟩ := put_of hK hn
  exact ⟨cs, by rw [h1, h2], k, by rw [h3]; exact rs_kept h k, Or.inl rfl⟩
def rowLen (w : World) (Z : Nat) : Nat := match w.cell? ⟨Z, 0, none⟩ with
  | some (.slice _ n _) => n
  | _ => 0
theorem rowLen_at {w : World} {Z n cap : Nat} {a : Option Addr} (h : w.cell? ⟨Z, 0, none⟩ = some (.slice a n cap)) : rowLen w Z = n := by unfold rowLen; rw [h]
theorem raiseR_yes {f : Nat → Stp} {r : R} {k : Nat} (hk : k = rg r.key) (h : lt (f k) r.s = true) (j : Nat) : raise f r j = if j = k then r.s else f j := by
  unfold raise
  by_cases e : j = k
  · rw [if_pos e, if_pos ⟨by rw [e, hk], by rw [e]; exact h⟩]
  · rw [if_neg e, if_neg (fun g => e (by rw [g.1, hk]))]
theorem raiseR_no {f : Nat → Stp} {r : R} {k : Nat} (hk : k = rg r.key) (h : lt (f k) r.s = false) : raise f r = f := by
  funext j
  unfold raise
  rw [if_neg]
  intro g
  have : j = k := by rw [g.1, hk]
  rw [this, h] at g
  exact absurd g.2 (by decide)

end Go.Proofs.YthgbdaladngpdaaGreat
