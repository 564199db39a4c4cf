/- The contract of slices.Insert of one piece at the beginning of a row of pieces. Rows have at most 1000 members. -/
import Derived.Test.YtalcbahnhiibkaaTkCode2
import Derived.Lib.AppendZerosOnto
import Derived.Lib.Overlaps
import Derived.Laws.NewBlocks
namespace Go.Proofs.Ytalcbahnhiibkaa
open Go.ChangeShapes Go.WideShapes Go.ChangeAt Go.RowKit
set_option linter.unusedVariables false
set_option linter.unusedSimpArgs false
set_option maxRecDepth 100000

theorem infoL : (Try.prog.info? 62).map (fun i => (i.zero, i.size, i.bytes)) = some (some (.agg #[.int .u8 0, .int .u8 0, .int .u32 0, .int .i64 0]), 4, 24) := by kernel_rfl
theorem tyL : TyG Try.prog 52 62 4 24 := by
  obtain ⟨i0, hi, hz0, hz1, hz2⟩ := info_parts infoL
  exact ⟨Try.underlying52, i0, _, hi, hz0, hz1, hz2, rfl⟩
def InsC (v : Value) (l : List Pc) (x : Nw) (w : World) (e : Ending) (w' : World) : Prop := ∃ v', e = .returned v' ∧ Og encP 4 62 w' 0 v' (⟨x, 0⟩ :: l) ∧ (∀ b, v'.ownBlock = some b → v.ownBlock = some b ∨ w.heap.size ≤ b) ∧ Tn (fun b => v.ownBlock = some b) w w'
def One4 (w : World) (V : Nat) (x : Nw) : Prop := At w V #[.int .u8 x.node, .int .u8 x.st, .int .u32 x.inc, .int .i64 0] 62
theorem one4_row {w : World} {V : Nat} {x : Nw} (h : One4 w V x) : Rg encP 4 w (.slice (some ⟨V, 0, none⟩) 1 1) [⟨x, 0⟩] := rg_alone (y := (⟨x, 0⟩ : Pc)) encP_ok h
set_option maxHeartbeats 1600000 in
theorem ins_empty {V : Nat} {x : Nw} (v : Value) (w : World) (h : Og encP 4 62 w 0 v []) (hV : One4 w V x) :
    Calls Try.prog 20 #[v, .int .i64 0, .slice (some ⟨V, 0, none⟩) 1 1] w (InsC v [] x w) := by
  have HO := hid h
  have HR := hid (one4_row hV)
  have HB : Hid (0 ≤ w.heap.size) := hid (Nat.zero_le _)
  obtain ⟨a, cap, rfl, h1, h2⟩ := og_is encP_ok h
  have HE : Hid (∀ b, (Value.slice a ([] : List Pc).length cap).ownBlock = some b → b < w.heap.size) := hid (fun b hb => (World.ownsRow.lt h b hb).2)
  have hcase : a = none ∧ cap = 0 ∨ ∃ G, a = some ⟨G, 0, none⟩ := by
    rcases h.2 with ⟨e, _⟩ | ⟨g, cc, cur, e, _⟩
    · injection e with e1 e2 e3
      exact .inl ⟨e1, e3⟩
    · injection e with e1 e2 e3
      exact .inr ⟨g, e1⟩
  simp only [List.length_nil] at HO HE ⊢
  clear h hV h1 h2
  have key : ∀ (v' : Value) (w' : World), Og encP 4 62 w' 0 v' ([] ++ [⟨x, 0⟩]) → w.grownBy w' (Value.slice a 0 cap).ownBlock → (∀ g, v'.ownBlock = some g → (Value.slice a 0 cap).ownBlock = some g ∨ g = w.heap.size) → InsC (.slice a 0 cap) [] x w (.returned v') w' := fun v' w' g1 g2 g3 => by
    refine ⟨v', rfl, g1, fun b hb => (g3 b hb).elim .inl (fun e => .inr (by rw [e]; exact Nat.le_refl _)), ⟨g2.os, g2.output, g2.size, fun b hb hn => g2.block b hb (fun e => hn e.symm)⟩⟩
  have KEY := hid key
  clear key
  rcases hcase with ⟨rfl, rfl⟩ | ⟨G, rfl⟩
  · go_enter Try.func20, Try.ntmps20
    go_wp2_with (at_builtin; go_must (refine wpList_gappL rfl (.tmp 23) (.tmp 24) rfl encP_ok tyL (by decide) 0 _ ⟨V, 0, none⟩ 1 [] [⟨x, 0⟩] rfl HO.out rfl (by simp) HR.out (by simp) HB.out ?_; intro v3 w3 hown3 hgrow3 hland3))
    have HF := hid (KEY.out v3 w3 hown3 hgrow3 hland3)
    clear hown3 hgrow3 hland3
    go_wp2_with fail
    go_ret
    exact HF.out
  · go_enter Try.func20, Try.ntmps20
    go_wp2_with (at_builtin; go_must (refine wpList_gappL rfl (.tmp 23) (.tmp 24) rfl encP_ok tyL (by decide) 0 _ ⟨V, 0, none⟩ 1 [] [⟨x, 0⟩] rfl HO.out rfl (by simp) HR.out (by simp) HB.out ?_; intro v3 w3 hown3 hgrow3 hland3))
    have HF := hid (KEY.out v3 w3 hown3 hgrow3 hland3)
    clear hown3 hgrow3 hland3
    go_wp2_with fail
    go_ret
    exact HF.out
/- What two copies, one behind the other, leave in place. -/
theorem over_two {cur : Array Value} {l : List Pc} {q : Pc} {cap : Nat} (hs : cur.size = cap * 4) (hc : l.length + 1 ≤ cap) : (over (over cur 4 (flatE encP l)) 0 (encP q)).size = cap * 4 ∧ (over (over cur 4 (flatE encP l)) 0 (encP q)).toList.take ((q :: l).length * 4) = flatE encP (q :: l) := by
  have hfl := flatE_len encP_ok l
  have hq : (encP q).length = 4 := rfl
  have h1 : (over cur 4 (flatE encP l)).size = cap * 4 := by rw [over_size (by omega), hs]
  refine ⟨by rw [over_size (by omega), h1], ?_⟩
  have e1 : (over cur 4 (flatE encP l)).toList.drop 4 = flatE encP l ++ cur.toList.drop (4 + (flatE encP l).length) := by
    have h4 : (cur.toList.take 4).length = 4 := by simp; omega
    unfold over
    rw [List.append_assoc]
    exact List.drop_left' h4
  have e2 : (over (over cur 4 (flatE encP l)) 0 (encP q)).toList = encP q ++ (flatE encP l ++ cur.toList.drop (4 + (flatE encP l).length)) := by
    rw [← e1]
    generalize over cur 4 (flatE encP l) = A
    unfold over
    simp [hq]
  rw [e2, flatE_cons, ← List.append_assoc, List.take_append_of_le_length (by rw [List.length_append, hq, hfl, List.length_cons]; omega), List.take_of_length_le (by rw [List.length_append, hq, hfl, List.length_cons]; omega)]
theorem size_lp (w : World) : (Go.sizeOf 62).run Try.prog w = .ok 4 w := by kernel_rfl
set_option maxHeartbeats 3200000 in
theorem ins_room {V G n cap : Nat} {x : Nw} {l : List Pc} (hl : l.length ≤ 1000) (h0 : 0 < n) (hr : n + 1 ≤ cap) (w : World) (h : Og encP 4 62 w 0 (.slice (some ⟨G, 0, none⟩) n cap) l) (hV : One4 w V x) (hne : V ≠ G) :
    Calls Try.prog 20 #[.slice (some ⟨G, 0, none⟩) n cap, .int .i64 0, .slice (some ⟨V, 0, none⟩) 1 1] w (InsC (.slice (some ⟨G, 0, none⟩) n cap) l x w) := by
  obtain ⟨cur, hG, -, hln, hnc, hm, hs, ht⟩ := og_whole h
  obtain ⟨i0, hi0, hz0, hz1, hz2⟩ := info_parts infoL
  have hov : ∀ lb cb, (callFunc 25 #[.slice (some ⟨V, 0, none⟩) 1 1, .slice (some ⟨G, 4, none⟩) lb cb]).run Try.prog w = .ok (.value (.bool false)) w := fun lb cb => by
    have hsz : ∀ u : World, (Go.sizeOf 62).run Try.prog u = .ok 4 u := size_lp
    rw [run_callFunc_extern Try.func25 (by kernel_rfl) (by kernel_rfl) (by kernel_rfl) (e := Extern.SlicesOverlaps.overlaps #[52, 52] #[4]) (by kernel_rfl),
      Lib.run_overlaps_apart w 52 4 62 Try.underlying52 4 hsz ⟨V, 0, none⟩ ⟨G, 4, none⟩ 1 1 lb cb hne 62 62 4 cur.size (by
        have hV' : w.heap[V]? = _ := hV
        unfold World.shape?
        rw [hV']; rfl) (by
        have hG' : w.heap[G]? = _ := hG
        unfold World.shape?
        rw [hG']) (by omega) (at_frozen hV 0) (at_frozen hV 4)]
    rfl
  have hfl := flatE_len encP_ok l
  have hsrc : ∀ (j : Nat) (u : Value), (flatE encP l)[j]? = some u → w.drew.cell? ((⟨G, 0, none⟩ : Addr).add j) = some u := fun j u hu => by
    rw [addr_plus, Nat.zero_add]
    have hj := (List.getElem?_eq_some_iff.1 hu).1
    show w.cell? ⟨G, j, none⟩ = some u
    rw [at_cell hG, ← hu, ← ht, List.getElem?_take, if_pos (by omega), Array.getElem?_toList]
  have hcp1 : ∀ ty dc sc, (Builtin.copy_ #[52, 52] ty #[.slice (some ⟨G, 4, none⟩) n dc, .slice (some ⟨G, 0, none⟩) (n + 1) sc]).run Try.prog w.drew = .ok (.int .i64 (n : Int)) (w.drew.setRow G (over cur 4 (flatE encP l))) := fun ty dc sc =>
    copy_raw Try.underlying52 hi0 hz1 (at_drew hG) (by rw [hfl, hln]) (by simp [Nat.min_def]) hsrc (by omega) (flatE_ones encP_ok l) ty
  obtain ⟨W1, hW1⟩ : ∃ W1, w.drew.setRow G (over cur 4 (flatE encP l)) = W1 := ⟨_, rfl⟩
  have hG1 : At W1 G (over cur 4 (flatE encP l)) 62 := by rw [← hW1]; exact at_setRow (at_drew hG)
  have hV1 : One4 W1 V x := by
    unfold One4 At
    rw [← hW1, setRow_other hne]
    exact hV
  have hs1 : (over cur 4 (flatE encP l)).size = cap * 4 := by rw [over_size (by omega), hs]
  have hcp2 : ∀ ty dc sc, (Builtin.copy_ #[52, 52] ty #[.slice (some ⟨G, 0, none⟩) (n + 1) dc, .slice (some ⟨V, 0, none⟩) 1 sc]).run Try.prog W1 = .ok (.int .i64 1) (W1.setRow G (over (over cur 4 (flatE encP l)) 0 (encP ⟨x, 0⟩))) := fun ty dc sc =>
    copy_raw (k := 1) Try.underlying52 hi0 hz1 hG1 rfl (by simp [Nat.min_def]) (fun j u hu => by
      rw [addr_plus, Nat.zero_add, at_cell hV1]
      simpa [encP] using hu) (by rw [show (encP (⟨x, 0⟩ : Pc)).length = 4 from rfl]; omega) (encP_ok.one _) ty
  have hend : InsC (.slice (some ⟨G, 0, none⟩) n cap) l x w (.returned (.slice (some ⟨G, 0, none⟩) (n + 1) cap)) (W1.setRow G (over (over cur 4 (flatE encP l)) 0 (encP ⟨x, 0⟩))) := by
    obtain ⟨o1, o2⟩ := over_two (q := ⟨x, 0⟩) (l := l) hs (by omega)
    have hO := og_of (w := W1.setRow G (over (over cur 4 (flatE encP l)) 0 (encP ⟨x, 0⟩))) (B := 0) (xs := (⟨x, 0⟩ : Pc) :: l) encP_ok (at_setRow hG1) (Nat.zero_le _) (by simp; omega) hm o1 o2
    rw [List.length_cons, hln] at hO
    refine ⟨_, rfl, hO, fun b hb => .inl hb, ?_⟩
    refine ⟨by rw [← hW1]; rfl, by rw [← hW1]; rfl, by rw [setRow_size, ← hW1, setRow_size]; exact Nat.le_refl _, fun b hb hn => ?_⟩
    have hbG : b ≠ G := fun e => hn (by rw [e]; rfl)
    rw [setRow_other hbG, ← hW1, setRow_other hbG]
    rfl
  rw [hW1] at hcp1
  have HEND := hid hend
  have n0 : ((0 : Int) == (n : Int)) = false := by rw [beq_eq_false_iff_ne]; omega
  have n1 : ¬ (cap : Int) < (n : Int) + 1 := by omega
  have n2 : n + 1 ≤ cap := hr
  have n3 : (n : Int) ≤ 1000 := by omega
  have n4 : ¬ cap = 1 := by omega
  clear hend hi0 hz0 hz1 hz2 hsrc hfl hV1 hG1 hs1 hV hs ht hG h hm hnc hln hl
  go_enter Try.func20, Try.ntmps20
  go_wp2_with (simp only [hov])
  go_region
  all_goals go_wp2_with fail
  go_ret
  exact HEND.out
theorem wpList_app_run {P : Program} {t tx : TypeId} {w w' : World} {ops : Array Oper} {rest : List Oper} {o : Oper} {act : Act} {Q : Exit → Act → World → Prop} (hgd : o.guard = none) (s x : Operand) (ho : o.op = .call { callee := .builtin .append, args := #[s, x], argTypes := #[t, tx] }) (v y v' : Value)
    (hs : act.eval s = v) (hx : act.eval x = y) (hr : (Builtin.append_ #[t, tx] o.type #[v, y]).run P w = .ok v' w') (h : wpList P ops Q rest (act.put o.dst v') w') : wpList P ops Q (o :: rest) act w :=
  wpList_plain hgd fun _ hK => op_run s x tx ho v y v' hs hx hr (hK _ _ h)
theorem over_new {row : Array Value} {l : List Pc} {q : Pc} {cap : Nat} (hs : row.size = cap * 4) (hc : l.length + 1 ≤ cap) : (over (over row 0 (encP q)) 4 (flatE encP l)).size = cap * 4 ∧ (over (over row 0 (encP q)) 4 (flatE encP l)).toList.take ((q :: l).length * 4) = flatE encP (q :: l) := by
  have hfl := flatE_len encP_ok l
  have hq : (encP q).length = 4 := rfl
  have h1 : (over row 0 (encP q)).size = cap * 4 := by rw [over_size (by omega), hs]
  refine ⟨by rw [over_size (by omega), h1], ?_⟩
  have e1 : (over row 0 (encP q)).toList.take 4 = encP q := by
    unfold over
    rw [List.take_zero, List.nil_append]
    exact List.take_left' hq
  have e2 : (over (over row 0 (encP q)) 4 (flatE encP l)).toList = encP q ++ (flatE encP l ++ (over row 0 (encP q)).toList.drop (4 + (flatE encP l).length)) := by
    generalize over row 0 (encP q) = A at e1
    unfold over
    rw [e1, List.append_assoc]
  rw [e2, flatE_cons, ← List.append_assoc, List.take_append_of_le_length (by rw [List.length_append, hq, hfl, List.length_cons]; omega), List.take_of_length_le (by rw [List.length_append, hq, hfl, List.length_cons]; omega)]
set_option maxHeartbeats 3200000 in
theorem ins_grow {V G n cap : Nat} {x : Nw} {l : List Pc} (hl : l.length ≤ 1000) (h0 : 0 < n) (hr : cap < n + 1) (w : World) (h : Og encP 4 62 w 0 (.slice (some ⟨G, 0, none⟩) n cap) l) (hV : One4 w V x) :
    Calls Try.prog 20 #[.slice (some ⟨G, 0, none⟩) n cap, .int .i64 0, .slice (some ⟨V, 0, none⟩) 1 1] w (InsC (.slice (some ⟨G, 0, none⟩) n cap) l x w) := by
  obtain ⟨cur, hG, -, hln, hnc, hm, hs, ht⟩ := og_whole h
  obtain ⟨i0, hi0, hz0, hz1, hz2⟩ := info_parts infoL
  have hold : (Builtin.firstCells i0.size 0 (.slice (some ⟨G, 0, none⟩) 0 cap)).run Try.prog w.drew = .ok ([] : List Value).toArray w.drew := run_firstCells_some w.drew i0.size 0 ⟨G, 0, none⟩ 0 cap [] (by simp) (fun j u hu => by simp at hu)
  have hrz := fun ty => Lib.run_append_grow_zeros (P := Try.prog) w 52 3 ty 62 i0 _ .i64 .i64 Try.underlying52 Try.underlying3 hi0 hz0 (some ⟨G, 0, none⟩) 0 cap [] hold (n + 1) (by omega) (by omega) (by omega) (by omega) (by rw [hz2]; omega) (by rw [hz2]; exact growslice_fits (by omega) (by omega))
  simp only [Nat.zero_add] at hrz
  have hge := grownCap_ge w (n + 1) cap 62
  have hgm := grownCap_le_maxLen w (n + 1) cap 62 (by unfold maxLen; omega)
  obtain ⟨gc, hgc⟩ : ∃ gc, grownCap w (n + 1) cap 62 = gc := ⟨_, rfl⟩
  rw [hgc] at hge hgm
  simp only [hgc] at hrz
  obtain ⟨row, hrow, hrs⟩ : ∃ row : Array Value, ([] : List Value).toArray ++ Builtin.zeroCells (Value.agg #[.int .u8 0, .int .u8 0, .int .u32 0, .int .i64 0]).cells (n + 1) ++ Builtin.zeroCells (Value.agg #[.int .u8 0, .int .u8 0, .int .u32 0, .int .i64 0]).cells (gc - (n + 1)) = row ∧ row.size = gc * 4 := ⟨_, rfl, by
    have hz4 : (Value.agg #[.int .u8 0, .int .u8 0, .int .u32 0, .int .i64 0]).cells.size = 4 := rfl
    simp [Builtin.zeroCells, hz4]
    omega⟩
  simp only [hrow] at hrz
  obtain ⟨N, hN⟩ : ∃ N, w.heap.size = N := ⟨_, rfl⟩
  have hAN := at_new w.drew row 62
  have hKN := kept_alloc (kept_drew (kept_refl w)) (.cells row 62)
  obtain ⟨W1, hW1⟩ : ∃ W1, w.drew.alloc (.cells row 62) = W1 := ⟨_, rfl⟩
  have hsd : w.drew.heap.size = N := hN
  rw [hsd, hW1] at hAN
  rw [hW1] at hKN
  simp only [hW1, hN] at hrz
  have hap : ∀ ty, (Builtin.append_ #[52, 3] ty #[.slice (some ⟨G, 0, none⟩) 0 cap, .int .i64 ((n : Int) + 1)]).run Try.prog w = .ok (.slice (some ⟨N, 0, none⟩) (n + 1) gc) W1 := fun ty => by
    have := hrz ty
    rw [show (((n + 1 : Nat) : Int)) = (n : Int) + 1 by omega] at this
    exact this
  have hGlt : G < N := by have := at_lt hG; omega
  have hVlt : V < N := by have := at_lt hV; omega
  have hq4 : (encP (⟨x, 0⟩ : Pc)).length = 4 := rfl
  have hcp1 : ∀ ty dc sc, (Builtin.copy_ #[52, 52] ty #[.slice (some ⟨N, 0, none⟩) (n + 1) dc, .slice (some ⟨V, 0, none⟩) 1 sc]).run Try.prog W1 = .ok (.int .i64 1) (W1.setRow N (over row 0 (encP ⟨x, 0⟩))) := fun ty dc sc =>
    copy_raw (k := 1) Try.underlying52 hi0 hz1 hAN rfl (by simp [Nat.min_def]) (fun j u hu => by
      rw [addr_plus, Nat.zero_add, at_cell (at_kept hV hKN)]
      simpa [encP] using hu) (by omega) (encP_ok.one _) ty
  obtain ⟨W2, hW2⟩ : ∃ W2, W1.setRow N (over row 0 (encP ⟨x, 0⟩)) = W2 := ⟨_, rfl⟩
  have hA2 : At W2 N (over row 0 (encP ⟨x, 0⟩)) 62 := by rw [← hW2]; exact at_setRow hAN
  have hG2 : At W2 G cur 62 := by
    unfold At
    rw [← hW2, setRow_other (by omega)]
    exact at_kept hG hKN
  have hfl := flatE_len encP_ok l
  have hs2 : (over row 0 (encP ⟨x, 0⟩)).size = gc * 4 := by rw [over_size (by omega), hrs]
  have hcp2 : ∀ ty dc sc, (Builtin.copy_ #[52, 52] ty #[.slice (some ⟨N, 4, none⟩) n dc, .slice (some ⟨G, 0, none⟩) n sc]).run Try.prog W2.drew = .ok (.int .i64 (n : Int)) (W2.drew.setRow N (over (over row 0 (encP ⟨x, 0⟩)) 4 (flatE encP l))) := fun ty dc sc =>
    copy_raw (k := n) Try.underlying52 hi0 hz1 (at_drew hA2) (by rw [hfl, hln]) (by simp [Nat.min_def]) (fun j u hu => by
      rw [addr_plus, Nat.zero_add]
      have hj := (List.getElem?_eq_some_iff.1 hu).1
      show W2.cell? ⟨G, j, none⟩ = some u
      rw [at_cell hG2, ← hu, ← ht, List.getElem?_take, if_pos (by omega), Array.getElem?_toList]) (by omega) (flatE_ones encP_ok l) ty
  have hend : InsC (.slice (some ⟨G, 0, none⟩) n cap) l x w (.returned (.slice (some ⟨N, 0, none⟩) (n + 1) gc)) (W2.drew.setRow N (over (over row 0 (encP ⟨x, 0⟩)) 4 (flatE encP l))) := by
    obtain ⟨o1, o2⟩ := over_new (q := ⟨x, 0⟩) (l := l) hrs (by omega)
    have hO := og_of (w := W2.drew.setRow N (over (over row 0 (encP ⟨x, 0⟩)) 4 (flatE encP l))) (B := 0) (xs := (⟨x, 0⟩ : Pc) :: l) encP_ok (at_setRow (at_drew hA2)) (Nat.zero_le _) (by simp; omega) hgm o1 o2
    rw [List.length_cons, hln] at hO
    have hk3 : Kept w (W2.drew.setRow N (over (over row 0 (encP ⟨x, 0⟩)) 4 (flatE encP l))) := kept_setRow (kept_drew (by rw [← hW2]; exact kept_setRow hKN (by omega) _)) (by omega) _
    refine ⟨_, rfl, hO, fun b hb => .inr ?_, ⟨kept_os hk3, kept_output hk3, hk3.2, fun b hb _ => kept_block hk3 hb⟩⟩
    have hbN : N = b := by simpa [Value.ownBlock] using hb
    omega
  rw [hW2] at hcp1
  have HEND := hid hend
  have HAP := hid hap
  have n0 : ((0 : Int) == (n : Int)) = false := by rw [beq_eq_false_iff_ne]; omega
  have n1 : (cap : Int) < (n : Int) + 1 := by omega
  have n2 : n ≤ cap := hnc
  have n3 : (n : Int) ≤ 1000 := by omega
  have n4 : ¬ gc = 1 := by omega
  have n5 : n + 1 ≤ gc := hge
  clear hend hi0 hz0 hz1 hz2 hfl hA2 hG2 hs2 hV hs ht hG h hm hnc hln hl hold hrz hge hgm hgc hrow hrs hN hAN hKN hW1 hsd hW2 hGlt hVlt hq4 hr hap
  go_enter Try.func20, Try.ntmps20
  go_wp2_with (at_builtin; refine wpList_app_run rfl (.tmp 34) (.tmp 39) rfl _ _ _ rfl rfl (HAP.out _) ?_)
  go_region
  all_goals go_wp2_with fail
  go_ret
  exact HEND.out
theorem insert_any {V : Nat} {x : Nw} {l : List Pc} (hl : l.length ≤ 1000) (v : Value) (w : World) (h : Og encP 4 62 w 0 v l) (hV : One4 w V x) (hne : v.ownBlock ≠ some V) :
    Calls Try.prog 20 #[v, .int .i64 0, .slice (some ⟨V, 0, none⟩) 1 1] w (InsC v l x w) := by
  cases l with
  | nil => exact ins_empty v w h hV
  | cons q l =>
    have hp : v ≠ .slice none 0 0 := by
      rintro rfl
      obtain ⟨a, cap, e, _⟩ := og_is encP_ok h
      injection e with e1 e2
      simp at e2
    obtain ⟨G, cap, rfl⟩ := og_some h hp
    by_cases hr : (q :: l).length + 1 ≤ cap
    · exact ins_room hl (by simp) hr w h hV (fun e => hne (by rw [e]; rfl))
    · exact ins_grow hl (by simp) (by omega) w h hV
theorem del_any {g G : Nat} {c : Value} {p : Pc → Bool} {l : List Pc} (eg : Enters g) (hl : l.length ≤ 1000) (v : Value) (w : World) (h : Og encP 4 62 w 0 v l) (hG : ∀ b, v.ownBlock = some b → b = G) (hp : PredOk g c p G w) :
    Calls Try.prog 17 #[v, .func (.func g) #[] #[c]] w (DelC v (l.filter (fun q => !p q)) w G) := by
  by_cases hn : v = .slice none 0 0
  · subst hn
    have hl0 : l = [] := by
      obtain ⟨a, cap, e, _⟩ := og_is encP_ok h
      injection e with e1 e2
      exact List.eq_nil_of_length_eq_zero e2.symm
    subst hl0
    have hI := idx_any eg hl _ w (rg_own encP_ok h) hp
    clear h hG hp eg
    go_enter Try.func17, Try.ntmps17
    go_wp2_with fail
    refine hI.mono ?_
    rintro e w1 ⟨z, rfl, hz, k1⟩
    have HK1 := hid k1
    clear k1 hI
    rcases hz with ⟨rfl, -⟩ | ⟨i, rfl, hf⟩
    · go_wp2_with fail
      go_ret
      exact ⟨_, rfl, og_nil _ _ _ _ _, rfl, turn_kept HK1.out⟩
    · exact absurd hf.1 (by simp)
  · obtain ⟨G', cap, rfl⟩ := og_some h hn
    have := hG G' rfl
    subst this
    exact del_some eg hl w h hp
end Go.Proofs.Ytalcbahnhiibkaa
