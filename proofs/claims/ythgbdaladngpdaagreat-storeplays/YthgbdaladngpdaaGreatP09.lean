/- A wheel as a row by times (Good); the contracts of New, Len, Drop and Add. A wheel has at most 900 items, an id and a time are such as numbers may be. Where the library's sort lies in this program: at items and at records. No condition. The library's sort at the program's items, off the shelf; the contracts of compare, and of the sort by it. A row has at most 1000 items. -/
import Derived.Test.YthgbdaladngpdaaGreatP08
import Derived.Shelf.SlSortCmp.NoneTotal
/- A wheel as a row by times (Good); the contracts of New, Len, Drop and Add. A wheel has at most 900 items, an id and a time are such as numbers may be. -/
namespace Go.Proofs.YthgbdaladngpdaaGreat.Whl
open Go.ChangeShapes Go.WideShapes Go.ChangeAt Go.RowKit
set_option linter.unusedVariables false
set_option maxRecDepth 100000
set_option linter.unusedSimpArgs false

def Good (w : World) (F : Nat → Prop) (X : Nat) (M : List It) : Prop := ∃ m V L g, GL w F X m V L g ∧ M.Perm (flat L) ∧ Srt M
def Stp (F F' : Nat → Prop) (w w' : World) : Prop := Tn F w w' ∧ ∀ j, F' j → F j ∨ w.heap.size ≤ j
section
variable {w w' : World} {F : Nat → Prop} {X : Nat} {M : List It}
theorem good_kept (h : Good w F X M) (k : Kept w w') : Good w' F X M := by
  obtain ⟨m, V, L, g, h1, h2⟩ := h
  exact ⟨m, V, L, g, gl_kept h1 k, h2⟩
theorem good_low (h : Good w F X M) : ∀ k, F k → k < w.heap.size := by
  obtain ⟨m, V, L, g, h1, h2⟩ := h
  exact h1.mem.low
theorem good_srt (h : Good w F X M) : Srt M := by
  obtain ⟨m, V, L, g, h1, h2, h3⟩ := h
  exact h3
theorem good_wf (h : Good w F X M) : ∀ x ∈ M, Wf x.2 ∧ Wu x.1 := by
  obtain ⟨m, V, L, g, h1, h2, h3⟩ := h
  exact fun x hx => h1.wf x (h2.mem_iff.1 hx)
end
theorem zero55 : ∃ zs : Array Value, zs.size = 65 ∧ (∀ b, b < 64 → zs[b]? = some (.slice none 0 0)) ∧ ∀ w, (zeroValue 121).run Tryz.prog w = .ok (.agg zs) w := by
  refine ⟨(Array.replicate 64 (.slice none 0 0)).push (.map none), by simp, fun b hb => ?_, fun w => by kernel_rfl⟩
  rw [Array.getElem?_push]
  simp [hb]
  omega
theorem flat_none : flat (fun _ => []) = [] := by unfold flat; simp
/- What New answers and leaves. -/
def NewC (w : World) (e : Ending) (w' : World) : Prop := ∃ X F, e = .returned (.pointer (some ⟨X, 0, none⟩)) ∧ Kept w w' ∧ Good w' F X [] ∧ ∀ k, F k → w.heap.size ≤ k
theorem good_new (w : World) {zs : Array Value} (hz : zs.size = 65) (hz2 : ∀ b, b < 64 → zs[b]? = some (.slice none 0 0)) :
    NewC w (.returned (.pointer (some ⟨w.heap.size + 1, 0, none⟩))) ((w.alloc (.map #[] 0)).alloc (.cells (zs.setIfInBounds 64 (.map (some w.heap.size))) 121)) := by
  refine ⟨_, fun k => k = w.heap.size ∨ k = w.heap.size + 1, rfl, kept_alloc (kept_alloc (kept_refl w) _) _, ⟨w.heap.size, fun _ => .slice none 0 0, fun _ => [], fun _ => none, ⟨?_, ⟨fun c j y _ h => by simp at h, fun k c j h => by cases h⟩, fun b _ j _ hj => by simp at hj, fun x hx => by rw [flat_none] at hx; cases hx⟩, by rw [flat_none], srt_nil⟩, fun k hk => by omega⟩
  rw [flat_none]
  refine ⟨⟨zs.setIfInBounds 64 (.map (some w.heap.size)), ?_, by simpa using hz, fun b hb => ?_, ?_⟩, ?_, fun b hb => row_none _, fun b d q _ _ h _ => (by cases h), .inr rfl, .inl rfl, fun b q _ h => (by cases h), fun k hk => ?_⟩
  · have h := at_new (w.alloc (.map #[] 0)) (zs.setIfInBounds 64 (.map (some w.heap.size))) 121
    rw [show (w.alloc (.map #[] 0)).heap.size = w.heap.size + 1 by simp] at h
    exact h
  · rw [Array.getElem?_setIfInBounds, if_neg (by omega)]; exact hz2 b hb
  · rw [Array.getElem?_setIfInBounds, if_pos rfl, if_pos (by omega)]
  · exact whr_block (whr_made w) (kept_block (kept_alloc (kept_refl (w.alloc (.map #[] 0))) _) (by simp))
  · have e : ((w.alloc (.map #[] 0)).alloc (.cells (zs.setIfInBounds 64 (.map (some w.heap.size))) 121)).heap.size = w.heap.size + 2 := by simp
    omega
theorem new_any (w : World) : Calls Tryz.prog 63 #[] w (NewC w) := by
  obtain ⟨zs, hz, hz2, hz3⟩ := zero55
  have hmm := @run_makeMap Tryz.prog
  have hz4 : ¬ zs.size < 65 := by omega
  have HG := hid (good_new w hz hz2)
  clear hz hz2
  go_enter Tryz.func63, Tryz.ntmps63
  go_wp2_with fail
  go_ret
  exact HG.out


def hasM (M : List It) (k : Int) : Bool := M.any (fun x => x.2 == k)
theorem has_no {M : List It} {k : Int} (h : ∀ z ∈ M, z.2 ≠ k) : hasM M k = false := by
  unfold hasM
  rw [List.any_eq_false]
  intro z hz
  simpa using h z hz
theorem has_yes {M : List It} {z : It} (h : z ∈ M) : hasM M z.2 = true := by
  unfold hasM
  rw [List.any_eq_true]
  exact ⟨z, h, by simp⟩
theorem out_row {M : List It} {L L' : Nat → List It} {y : It} (h : Srt M) (hp : M.Perm (flat L)) (ho : (flat L).Perm (y :: flat L')) : (wo M y.2).Perm (flat L') ∧ Srt (wo M y.2) := by
  have h1 := hp.trans ho
  have h2 := (h1.pairwise_iff (R := fun a b : It => a.2 ≠ b.2) (fun {_ _} g => Ne.symm g)).1 h.uni
  have h3 := (List.pairwise_cons.1 h2).1
  exact ⟨wo_perm h1 (fun z hz => Ne.symm (h3 z hz)), srt_wo h _⟩
theorem drop_nil (k : Int) (w : World) : Calls Tryz.prog 76 #[.pointer none, .int .i64 k] w fun e w' => e = .returned (.bool false) ∧ w' = w := by
  go_enter Tryz.func76, Tryz.ntmps76
  go_wp2_with fail
  go_ret
  exact ⟨rfl, rfl⟩
/- What Drop answers and leaves. -/
def DropC (F : Nat → Prop) (X : Nat) (M : List It) (k : Int) (w : World) (e : Ending) (w' : World) : Prop := e = .returned (.bool (hasM M k)) ∧ Tn F w w' ∧ Good w' F X (wo M k)
set_option maxHeartbeats 1600000 in
theorem drop_any {F : Nat → Prop} {X : Nat} {M : List It} (k : Int) (hk : Wf k) (hn : M.length ≤ 1000) (w : World) (h : Good w F X M) : Calls Tryz.prog 76 #[.pointer (some ⟨X, 0, none⟩), .int .i64 k] w (DropC F X M k w) := by
  obtain ⟨m, V, L, g, h1, h2, h3⟩ := h
  have hm := wm_map h1.mem
  have hlook := whr_look h1.mem.map hk
  cases hg : g k with
  | none =>
    rw [hg] at hlook
    have hlook2 : (Instr.lookup 119 (.map (some m)) (.int .i64 k) true).run Tryz.prog w = .ok (.tuple #[.agg #[.int .i64 0, .int .i64 0], .bool false]) w := hlook
    have hno : ∀ z ∈ M, z.2 ≠ k := fun z hz => (full_none h1.full).1 hg z (h2.mem_iff.1 hz)
    have HE : Hid (∀ u, Kept w u → DropC F X M k w (.returned (.bool false)) u) := hid (fun u ku => ⟨by rw [has_no hno], tn_kept ku, by rw [wo_not hno]; exact ⟨m, V, L, g, gl_kept h1 ku, h2, h3⟩⟩)
    have HK := hid (kept_alloc (kept_refl w) (.cells #[.int .i64 0, .int .i64 0] 126))
    have HS := hid (kept_set (kept_set (kept_alloc (kept_refl w) (.cells #[.int .i64 0, .int .i64 0] 126)) (Nat.le_refl _) 0 (.int .i64 0)) (Nat.le_refl _) 1 (.int .i64 0))
    clear hlook hno h1 h2 h3 hg
    go_enter Tryz.func76, Tryz.ntmps76
    go_wp2_with fail
    go_ret
    exact HE.out _ (by first | exact HS.out | exact HK.out)
  | some p =>
    obtain ⟨b, i⟩ := p
    rw [hg] at hlook
    have hlook2 : (Instr.lookup 119 (.map (some m)) (.int .i64 k) true).run Tryz.prog w = .ok (.tuple #[.agg #[.int .i64 (b : Int), .int .i64 (i : Int)], .bool true]) w := hlook
    obtain ⟨hb, y, hy, rfl⟩ := h1.full.back k b i hg
    have hym : y ∈ M := h2.mem_iff.2 (flat_mem.2 ⟨b, hb, List.mem_of_getElem? hy⟩)
    have HE : Hid (∀ (u u' : World) (V' : Nat → Value) (l' : List It) (g' : Int → Option (Nat × Nat)), Kept w u → Tn F u u' → GL u' F X m V' (upd L b l') g' → (L b).Perm (y :: l') → DropC F X M y.2 w (.returned (.bool true)) u') := hid (fun u u' V' l' g' ku tu gu pu => by
      obtain ⟨q1, q2⟩ := out_row h3 h2 (flat_out hb pu)
      exact ⟨by rw [has_yes hym], tn_trans (tn_kept ku) tu, m, V', _, g', gu, q1, q2⟩)
    have HT : Hid (∀ u, Kept w u → Calls Tryz.prog 86 #[.pointer (some ⟨X, 0, none⟩), .agg #[.int .i64 (b : Int), .int .i64 (i : Int)]] u (OutC F X m L b y u)) := hid (fun u ku => take_any b i y (by rw [← h2.length_eq]; exact hn) hb hy u (gl_kept h1 ku))
    have HK : Hid (∀ v0 v1, Kept w (((w.alloc (.cells #[.int .i64 0, .int .i64 0] 126)).setCell ⟨w.heap.size, 0, none⟩ v0).setCell ⟨w.heap.size, 1, none⟩ v1)) := hid (fun v0 v1 => kept_set (kept_set (kept_alloc (kept_refl w) _) (Nat.le_refl _) _ _) (Nat.le_refl _) _ _)
    have HK2 : Hid (∀ o, Kept w (w.alloc o)) := hid (fun o => kept_alloc (kept_refl w) o)
    clear hlook hg h1 h2 h3 hy hym
    go_enter Tryz.func76, Tryz.ntmps76
    go_wp2_with fail
    refine (HT.out _ (by first | exact HK.out _ _ | exact HK2.out _)).mono ?_
    rintro e w3 ⟨rfl, t3, V', l', g', gu, pu⟩
    have HZ := hid (HE.out _ _ _ _ _ (by first | exact HK.out _ _ | exact HK2.out _) t3 gu pu)
    clear t3 gu pu
    go_wp2_with fail
    go_ret
    exact HZ.out
/- An append within a drawn region. -/
theorem op_run {P : Program} {w w' : World} {o : Oper} {a : Act} {K : Act → World → Prop} {Q : Exit → Act → World → Prop} (s x : Operand) (t tx : TypeId)
    (ho : o.op = .call { callee := .builtin .append, args := #[s, x], argTypes := #[t, tx] }) (v y v' : Value) (hs : a.eval s = v) (hx : a.eval x = y) (hr : (Builtin.append_ #[t, tx] o.type #[v, y]).run P w = .ok v' w')
    (h : K (a.put o.dst v') w') : o.wp P a w K Q := by
  simpa [Oper.wp, execOp, ho, resolve, invoke, builtin, hs, hx, hr, Oper.upon_value] using h
/- An item appended to a row. -/
theorem info59 : (Tryz.prog.info? 123).map (fun i => (i.zero, i.size, i.bytes)) = some (some (.agg #[.int .u64 0, .int .i64 0]), 2, 16) := by kernel_rfl
theorem item_cells {w : World} {N : Nat} {a b : Value} (h : At w N #[a, b] 123) : ∀ (j : Nat) (u : Value), ([a, b] : List Value)[j]? = some u → w.cell? ((⟨N, 0, none⟩ : Addr).add j) = some u := by
  intro j u hu
  match j, hu with
  | 0, hu => simp at hu; subst hu; exact at_cell h 0
  | 1, hu => simp at hu; subst hu; exact at_cell h 1
  | j + 2, hu => simp at hu
theorem app_item {w : World} {v : Value} {l : List It} {x : It} (h : Row w v l) (hl : l.length ≤ 1000) {N : Nat} (hN : At w N #[.int .u64 x.1, .int .i64 x.2] 123) (c : Nat) (ty : TypeId) :
    ∃ v' w', (Builtin.append_ #[117, 117] ty #[v, .slice (some ⟨N, 0, none⟩) 1 c]).run Tryz.prog w = .ok v' w' ∧ Row w' v' (l ++ [x]) ∧ w.grownBy w' v.ownBlock ∧ ∃ q, v'.ownBlock = some q ∧ (v.ownBlock = some q ∨ q = w.heap.size) := by
  obtain ⟨i0, hi, hz0, hz1, hz2⟩ := info_parts (P := Tryz.prog) (e := 123) info59
  have h1 : ∀ u ∈ ([.int .u64 x.1, .int .i64 x.2] : List Value), u.oneCell' = true := by
    intro u hu
    rcases List.mem_cons.1 hu with rfl | hu
    · rfl
    · rcases List.mem_cons.1 hu with rfl | hu
      · rfl
      · cases hu
  obtain ⟨v', w', hrun, hown, hgr, hnil⟩ := run_append_own (P := Tryz.prog) w 0 117 ty 123 i0 _ 2 16 Tryz.underlying117 hi hz0 hz1 hz2 rfl (by decide) v l.length (iw l) h ⟨N, 0, none⟩ 1 c [.int .u64 x.1, .int .i64 x.2] rfl (item_cells hN) h1 (by unfold maxLen; omega) (by omega) (Nat.zero_le _)
  refine ⟨v', w', hrun, ?_, hgr, ?_⟩
  · unfold Row
    rw [iw_app, show (l ++ [x]).length = l.length + 1 by simp]
    exact hown
  · rcases h.2 with ⟨rfl, hn⟩ | ⟨g, cap, cur, rfl, hb, hg, hc, hm, hs, ht⟩
    · rw [run_append_nil (P := Tryz.prog) w 117 ty 123 i0 _ Tryz.underlying117 hi hz0 ⟨N, 0, none⟩ 1 c [.int .u64 x.1, .int .i64 x.2] (by rw [hz1]; rfl) (item_cells hN) (by omega) (by omega) (by rw [hz2]; omega)] at hrun
      injection hrun with hrun
      exact ⟨w.heap.size, by rw [← hrun]; rfl, .inr rfl⟩
    · by_cases hr : l.length + 1 ≤ cap
      · rw [run_append_room (P := Tryz.prog) w 117 ty 123 i0 Tryz.underlying117 hi g l.length cap cur hg ⟨N, 0, none⟩ 1 c [.int .u64 x.1, .int .i64 x.2] (by rw [hz1]; rfl) (item_cells hN) h1 hr (by rw [hz1, hs]; simp; omega)] at hrun
        injection hrun with hrun
        exact ⟨g, by rw [← hrun]; rfl, .inl rfl⟩
      · rw [run_append_grow (P := Tryz.prog) w 117 ty 123 i0 _ Tryz.underlying117 hi hz0 ⟨g, 0, none⟩ l.length cap (iw l) (by rw [hz1]; exact h.1) (World.ownsRow.cells h (g := g) rfl) ⟨N, 0, none⟩ 1 c [.int .u64 x.1, .int .i64 x.2] (by rw [hz1]; rfl) (item_cells hN) (by omega) (by omega) (growslice_fits (by omega) (by rw [hz2]; omega))] at hrun
        injection hrun with hrun
        exact ⟨w.heap.size, by rw [← hrun]; rfl, .inr rfl⟩
section
variable {u w w' : World} {F : Nat → Prop} {X m c : Nat} {V : Nat → Value} {L : Nat → List It} {g : Int → Option (Nat × Nat)} {b : Nat} {v' : Value} {l' : List It}
theorem app_same (h : Wm w F X m V L g c) (hb : b < 64) (hg : w.grownBy w' (V b).ownBlock) {k : Nat} (hk : k < w.heap.size) (hn : ∀ q, (V b).ownBlock = some q → k ≠ q) : w'.heap[k]? = w.heap[k]? :=
  hg.block k hk (fun e => hn k e.symm rfl)
theorem app_block (h : Wm w F X m V L g c) (hb : b < 64) {Y T : Nat} {ds : Array Value} (hY : At w Y ds T) (hT : T ≠ 123) : ∀ q, (V b).ownBlock = some q → Y ≠ q := fun q hq => by
  obtain ⟨cs, hcs⟩ := row_at (h.row b hb) hq
  exact at_ne hY hcs hT
theorem app_tn (t : Tn F u w) (h : Wm w F X m V L g c) (hb : b < 64) (hg : w.grownBy w' (V b).ownBlock) : Tn F u w' :=
  tn_trans t ⟨hg.os, hg.output, hg.size, fun k hk hn => app_same h hb hg hk (fun q hq e => hn (by rw [e]; exact h.fV b q hb hq))⟩
theorem app_at (h : Wm w F X m V L g c) (hb : b < 64) (hg : w.grownBy w' (V b).ownBlock) {Y : Nat} {ds : Array Value} {T : Nat} (hY : At w Y ds T) (hF : ¬ F Y) : At w' Y ds T :=
  (app_same h hb hg (at_lt hY) (fun q hq e => hF (by rw [e]; exact h.fV b q hb hq))).trans hY
theorem app_obj (h : Wm w F X m V L g c) (hb : b < 64) (hg : w.grownBy w' (V b).ownBlock) : (w'.cell? ⟨X, b, none⟩ = some (V b) ∧ ∀ j, w'.frozen? ⟨X, j, none⟩ = false) ∧ ∃ cs, At w' X cs 121 := by
  obtain ⟨cs, h1, h2, h3, h4⟩ := h.obj
  have h5 : At w' X cs 121 := (app_same h hb hg (at_lt h1) (app_block h hb h1 (by decide))).trans h1
  exact ⟨⟨(at_cell h5 _).trans (h3 b hb), at_frozen h5⟩, cs, h5⟩
theorem app_wm (h : Wm w F X m V L g c) (hb : b < 64) (hr : Row w' v' l') (hg : w.grownBy w' (V b).ownBlock) (hq : ∃ q, v'.ownBlock = some q ∧ ((V b).ownBlock = some q ∨ q = w.heap.size)) :
    Wm (w'.setCell ⟨X, b, none⟩ v') (fun j => F j ∨ v'.ownBlock = some j) X m (upd V b v') (upd L b l') g c := by
  obtain ⟨cs, h1, h2, h3, h4⟩ := h.obj
  obtain ⟨q, hv, hq⟩ := hq
  obtain ⟨es, clock, hmp⟩ := whr_is h.map
  have hX : At w' X cs 121 := (app_same h hb hg (at_lt h1) (app_block h hb h1 (by decide))).trans h1
  have hM := at_map h1 hmp
  have hh : ∀ k, k ≠ X → (w'.setCell ⟨X, b, none⟩ v').heap[k]? = w'.heap[k]? := fun k hk => Below.heap_setCell _ _ _ _ hk
  have hmm : w'.heap[m]? = w.heap[m]? := app_same h hb hg (whr_lt h.map) (fun p hp => by
    obtain ⟨ds, hds⟩ := row_at (h.row b hb) hp
    exact Ne.symm (at_map hds hmp))
  have hlow := wm_low h
  have hne : ∀ d, d < 64 → d ≠ b → (V d).ownBlock ≠ some q := fun d hd hn e => by
    rcases hq with hq | hq
    · exact hn (h.apart d b q hd hb e hq)
    · have := hlow.2.2 d q hd e; omega
  refine ⟨⟨_, at_set hX _ _, by simpa using h2, fun d hd => ?_, ?_⟩, whr_block h.map ((hh m (Ne.symm hM)).trans hmm), fun d hd => ?_, ?_, .inl h.fX, .inl h.fm, ?_, ?_⟩
  · rw [Array.getElem?_setIfInBounds]
    by_cases e : b = d
    · rw [if_pos e, if_pos (by omega), ← e, upd_at]
    · rw [if_neg e, upd_ne _ _ (Ne.symm e)]; exact h3 d hd
  · rw [Array.getElem?_setIfInBounds, if_neg (by omega)]; exact h4
  · by_cases e : d = b
    · subst e
      rw [upd_at, upd_at]
      exact row_block hr (fun p ds _ ha => hh p (Ne.symm (at_ne hX ha (by decide))))
    · rw [upd_ne _ _ e, upd_ne _ _ e]
      exact row_block (h.row d hd) (fun p ds hp ha => (hh p (Ne.symm (at_ne h1 ha (by decide)))).trans (app_same h hb hg (at_lt ha) (fun p' hp' e' => e (h.apart d b p hd hb hp (by rw [hp', e'])))))
  · intro a d p ha hd h5 h6
    by_cases ea : a = b
    · by_cases ed : d = b
      · omega
      · subst ea
        rw [upd_at, hv] at h5
        rw [upd_ne _ _ ed] at h6
        exact absurd (h6.trans h5.symm) (hne d hd ed)
    · by_cases ed : d = b
      · subst ed
        rw [upd_at, hv] at h6
        rw [upd_ne _ _ ea] at h5
        exact absurd (h5.trans h6.symm) (hne a ha ea)
      · rw [upd_ne _ _ ea] at h5
        rw [upd_ne _ _ ed] at h6
        exact h.apart a d p ha hd h5 h6
  · intro d p hd h5
    by_cases e : d = b
    · subst e; rw [upd_at] at h5; exact .inr h5
    · rw [upd_ne _ _ e] at h5; exact .inl (h.fV d p hd h5)
  · intro j hj
    have hsz : (w'.setCell ⟨X, b, none⟩ v').heap.size = w'.heap.size := by simp [World.setCell]
    rw [hsz]
    rcases hj with hj | hj
    · exact Nat.lt_of_lt_of_le (h.low j hj) hg.size
    · obtain ⟨ds, hds⟩ := row_at hr hj
      exact at_lt hds
theorem app_ne {P : Prop} (h : P ∧ ∃ cs, At w X cs 121) {Y : Nat} {ds : Array Value} (hY : At w Y ds 126) : Y ≠ X := by
  obtain ⟨_, cs, h1⟩ := h
  exact at_ne hY h1 (by decide)
end
theorem tn_step {F F' : Nat → Prop} {w u w' : World} (h : Tn F w u) (k : Tn F' u w') (hF : ∀ j, F' j → F j ∨ w.heap.size ≤ j) : Tn F w w' :=
  ⟨k.1.trans h.1, k.2.1.trans h.2.1, Nat.le_trans h.2.2.1 k.2.2.1, fun i hi hn => (k.2.2.2 i (Nat.lt_of_lt_of_le hi h.2.2.1) (fun hf => by
    rcases hF i hf with hf | hf
    · exact hn hf
    · omega)).trans (h.2.2.2 i hi hn)⟩
theorem stp_trans {F F' F'' : Nat → Prop} {w u w' : World} (h : Stp F F' w u) (k : Stp F' F'' u w') : Stp F F'' w w' :=
  ⟨tn_step h.1 k.1 h.2, fun j hj => by
    rcases k.2 j hj with hf | hf
    · exact h.2 j hf
    · exact .inr (Nat.le_trans h.1.2.2.1 hf)⟩
theorem stp_tn {F : Nat → Prop} {w w' : World} (h : Tn F w w') : Stp F F w w' := ⟨h, fun j hj => .inl hj⟩
theorem wu_bounds {a : Int} (h : Wu a) : 0 ≤ a ∧ a ≤ 18446744073709551615 := bounds_u64 h
theorem add_nil (k d : Int) (w : World) : Calls Tryz.prog 80 #[.pointer none, .int .i64 k, .int .u64 d] w fun e w' => e = .returned (.tuple #[]) ∧ w' = w := by
  go_enter Tryz.func80, Tryz.ntmps80
  go_wp2_with fail
  exact bodyPost_ret (results_none rfl _ _ _) rfl ⟨rfl, rfl⟩
/- What Add leaves. -/
def AddC (F : Nat → Prop) (X : Nat) (M : List It) (w : World) (e : Ending) (w' : World) : Prop := e = .returned (.tuple #[]) ∧ ∃ F', Stp F F' w w' ∧ Good w' F' X M
set_option maxHeartbeats 3200000 in
theorem add_any {F : Nat → Prop} {X : Nat} {M : List It} (k d : Int) (hk : Wf k) (hd : Wu d) (hn : M.length ≤ 900) (w : World) (h : Good w F X M) : Calls Tryz.prog 80 #[.pointer (some ⟨X, 0, none⟩), .int .i64 k, .int .u64 d] w (AddC F X (ins (d, k) (wo M k)) w) := by
  have hd0 := wu_bounds hd
  obtain ⟨b, hdb, hb⟩ : ∃ b : Nat, d % 64 = (b : Int) ∧ b < 64 := ⟨(d % 64).toNat, by omega, by omega⟩
  have hb2 : ¬ (64 : Int) ≤ (b : Int) := by omega
  have hdrop := drop_any k hk (by omega) w h
  have HLw : Hid ((wo M k).length ≤ 900) := hid (Nat.le_trans (List.length_filter_le _ _) hn)
  have HNo : Hid (∀ z ∈ wo M k, z.2 ≠ k) := hid wo_mem
  have HD := hid hd
  clear h hn
  go_enter Tryz.func80, Tryz.ntmps80
  go_wp2_with fail
  refine hdrop.mono ?_
  rintro e w1 ⟨rfl, t1, m, V, L, g, h1, h2, h3⟩
  clear hdrop
  generalize wo M k = M1 at *
  generalize hasM M k = B1 at *
  have HT1 := hid t1
  have HG1 := hid h1
  have HPe := hid h2
  have HSr := hid h3
  obtain ⟨va, cap, hv⟩ := row_is (h1.mem.row b hb)
  have HVb := hid hv
  have hl : (L b).length ≤ 1000 := by have := flat_len L hb; have := h2.length_eq; have := HLw.out; omega
  have hc3 : (flat L).length ≤ 1000 := by have := h2.length_eq; have := HLw.out; omega
  have c0 := (wm_cell h1.mem hb).1
  rw [hv] at c0
  have hn : (L b).length ≤ 1000 := hl
  clear t1 h1 h2 h3 hv
  go_wp2_with fail
  have HW2 := hid (wm_kept HG1.out.mem (kept_alloc (kept_refl w1) (.cells #[.int .i64 (b : Int), .int .i64 ((L b).length : Int)] 126)))
  have HP2 := hid (at_new w1 #[.int .i64 (b : Int), .int .i64 ((L b).length : Int)] 126)
  have HT2 := hid (tn_alloc HT1.out (.cells #[.int .i64 (b : Int), .int .i64 ((L b).length : Int)] 126))
  have HPF : Hid (¬ F w1.heap.size) := hid (fun hf => by have := HG1.out.mem.low _ hf; omega)
  have HFull := hid HG1.out.full
  have HHeap := hid HG1.out.heap
  have HWfs := hid HG1.out.wf
  clear c0 HT1 HG1
  generalize w1.alloc (.cells #[.int .i64 (b : Int), .int .i64 ((L b).length : Int)] 126) = w2 at *
  generalize w1.heap.size = P1 at *
  go_upto_region 4 with fail
  go_cut [6] (fun s wc => s = .int .i64 (b : Int) ∧ ∃ F5 V5, Hid (Wm wc F5 X m V5 (upd L b (L b ++ [((0 : Int), (0 : Int))])) g (flat L).length) ∧ Hid (Tn F w wc) ∧ Hid (At wc P1 #[.int .i64 (b : Int), .int .i64 ((L b).length : Int)] 126) ∧ Hid (∀ j, F5 j → F j ∨ w.heap.size ≤ j))
  case first =>
    clear HFull HHeap HWfs HPe HNo HLw HSr HD
    refine wp_region_noPanic ?_
    refine wp_region_held_drew (S := (fun _ => True)) (by kernel_rfl) (trivial) (fun hHeld => ?_)
    have HW3 := hid (wm_kept HW2.out (kept_drew (kept_refl w2)))
    have HP3 := hid (at_drew HP2.out)
    have HT3 := hid (tn_trans HT2.out (tn_kept (kept_drew (kept_refl w2))))
    generalize w2.drew = w3 at *
    have HW4 := hid (wm_kept HW3.out (kept_alloc (kept_refl w3) (.cells #[.int .u64 0, .int .i64 0] 123)))
    have HP4 := hid (at_alloc HP3.out (.cells #[.int .u64 0, .int .i64 0] 123))
    have HT4 := hid (tn_alloc HT3.out (.cells #[.int .u64 0, .int .i64 0] 123))
    have HZ4 := hid (at_new w3 #[.int .u64 0, .int .i64 0] 123)
    obtain ⟨w4, hw4⟩ : ∃ w4, w3.alloc (.cells #[.int .u64 0, .int .i64 0] 123) = w4 := ⟨_, rfl⟩
    rw [hw4] at HW4 HP4 HT4 HZ4
    obtain ⟨v5, w5, hrun, hr5, hg5, hb5⟩ := app_item (x := (0, 0)) (HW4.out.row b hb) hl HZ4.out 1 117
    have HA := hid (app_wm HW4.out hb hr5 hg5 hb5)
    have HP5 := hid (app_at HW4.out hb hg5 HP4.out HPF.out)
    have HX5 := hid (app_obj HW4.out hb hg5)
    have HT5 := hid (app_tn HT4.out HW4.out hb hg5)
    have HF5 := hid hb5
    rw [HVb.out] at hrun
    have HR5 : Hid (∃ a cap, v5 = .slice a ((L b).length + 1) cap) := hid (by have := row_is hr5; simpa using this)
    clear hr5 hg5 hb5
    have HT6 := hid (tn_set HT5.out (X := X) (.inl HW4.out.fX) b v5)
    have HP6 := hid (at_other HP5.out (app_ne HX5.out HP5.out) b v5)
    obtain ⟨w6, hw6⟩ : ∃ w6, w5.setCell ⟨X, b, none⟩ v5 = w6 := ⟨_, rfl⟩
    rw [hw6] at HA HT6 HP6
    have HFs : Hid (∀ j, (F j ∨ v5.ownBlock = some j) → F j ∨ w.heap.size ≤ j) := hid (fun j hj => by
      rcases hj with hj | hj
      · exact .inl hj
      · obtain ⟨q, h1, h2⟩ := HF5.out
        rw [hj] at h1
        injection h1 with h1
        subst h1
        rcases h2 with h2 | h2
        · exact .inl (HW4.out.fV b _ hb h2)
        · exact .inr (by rw [h2]; exact HT4.out.2.2.1))
    obtain ⟨F5, hF5⟩ : ∃ F5 : Nat → Prop, (fun j => F j ∨ v5.ownBlock = some j) = F5 := ⟨_, rfl⟩
    replace HFs : Hid (∀ j, F5 j → F j ∨ w.heap.size ≤ j) := hid (by rw [← hF5]; exact HFs.out)
    obtain ⟨V5, hV5⟩ : ∃ V5, upd V b v5 = V5 := ⟨_, rfl⟩
    rw [hF5, hV5] at HA
    clear hF5 hV5 HF5
    obtain ⟨a5, cap5, rfl⟩ := HR5.out
    obtain ⟨x0, xf⟩ := HX5.out.1
    have y3 := (wm_cell HW3.out hb).1
    have y4 := (wm_cell HW4.out hb).1
    rw [HVb.out] at y3 y4 x0
    refine wpAnyH_take (i := 0) (v := .pointer (some ⟨X, 0, none⟩)) rfl (by kernel_rfl) (by kernel_rfl) (by kernel_rfl) (fun _ _ _ h => h) (Or.inl ⟨by rfl, fun w hSw => by (try dsimp only at hSw); go_simp⟩) trivial ?_
    refine wpAnyH_take (i := 1) (v := .int .i64 (b : Int)) rfl (by kernel_rfl) (by kernel_rfl) (by kernel_rfl) (fun _ _ _ h => h) (Or.inl ⟨by rfl, fun w hSw => by (try dsimp only at hSw); go_simp⟩) trivial ?_
    refine wpAnyH_take (i := 2) (v := .pointer (some ⟨X, 0, none⟩)) rfl (by kernel_rfl) (by kernel_rfl) (by kernel_rfl) (fun _ _ _ h => h) (Or.inl ⟨by rfl, fun w hSw => by (try dsimp only at hSw); go_simp⟩) trivial ?_
    refine wpAnyH_take (i := 3) (v := .int .i64 (b : Int)) rfl (by kernel_rfl) (by kernel_rfl) (by kernel_rfl) (fun _ _ _ h => h) (Or.inl ⟨by rfl, fun w hSw => by (try dsimp only at hSw); go_simp⟩) trivial ?_
    refine wpAnyH_take (i := 4) (v := .pointer (some ⟨X, 0, none⟩)) rfl (by kernel_rfl) (by kernel_rfl) (by kernel_rfl) (fun _ _ _ h => h) (Or.inl ⟨by rfl, fun w hSw => by (try dsimp only at hSw); go_simp⟩) trivial ?_
    refine wpAnyH_take (i := 5) (v := .pointer (some ⟨X, 0, none⟩)) rfl (by kernel_rfl) (by kernel_rfl) (by kernel_rfl) (fun _ _ _ h => h) (Or.inl ⟨by rfl, fun w hSw => by (try dsimp only at hSw); go_simp⟩) trivial ?_
    refine wpAnyH_take (i := 6) (v := .pointer (some ⟨X, b, none⟩)) rfl (by kernel_rfl) (by kernel_rfl) (by kernel_rfl) (fun _ _ _ h => h) (Or.inl ⟨by rfl, fun w hSw => by (try dsimp only at hSw); go_simp⟩) trivial ?_
    refine wpAnyH_take (i := 8) (v := .agg #[.int .u64 0, .int .i64 0]) rfl (by kernel_rfl) (by kernel_rfl) (by kernel_rfl) (fun _ _ _ h => h) (Or.inl ⟨by rfl, fun w hSw => by (try dsimp only at hSw); go_simp⟩) trivial ?_
    refine wpAnyH_take (i := 11) (v := .pointer (some ⟨X, 0, none⟩)) rfl (by kernel_rfl) (by kernel_rfl) (by kernel_rfl) (fun _ _ _ h => h) (Or.inl ⟨by rfl, fun w hSw => by (try dsimp only at hSw); go_simp⟩) trivial ?_
    refine wpAnyH_take (i := 12) (v := .pointer (some ⟨X, 0, none⟩)) rfl (by kernel_rfl) (by kernel_rfl) (by kernel_rfl) (fun _ _ _ h => h) (Or.inl ⟨by rfl, fun w hSw => by (try dsimp only at hSw); go_simp⟩) trivial ?_
    try simp only [List.getElem_toArray, List.getElem_cons_zero, List.getElem_cons_succ, Act.put, List.setIfInBounds_toArray, List.set_cons_zero, List.set_cons_succ]
    refine wpAnyH_ready (rs := [7, 9]) (by kernel_rfl) (by simp) ?_
    refine AllReadyH.cons (i := 7) rfl (fun K hK => ?_) ?_
    · go_simp
      clear hHeld
      show K _ _
      refine hK.out _ _ (trivial) (fun hHeld => ?_)
      clear hK K
      try simp only [List.getElem_toArray, List.getElem_cons_zero, List.getElem_cons_succ, Act.put, List.setIfInBounds_toArray, List.set_cons_zero, List.set_cons_succ]
      refine wpAnyH_ready (rs := [9]) (by kernel_rfl) (by simp) ?_
      refine AllReadyH.cons (i := 9) rfl (fun K hK => ?_) AllReadyH.nil
      go_simp
      clear hHeld
      show K _ _
      refine hK.out _ _ (trivial) (fun hHeld => ?_)
      clear hK K
      try simp only [List.getElem_toArray, List.getElem_cons_zero, List.getElem_cons_succ, Act.put, List.setIfInBounds_toArray, List.set_cons_zero, List.set_cons_succ]
      refine wpAnyH_ready (rs := [10]) (by kernel_rfl) (by simp) ?_
      refine AllReadyH.cons (i := 10) rfl (fun K hK => ?_) AllReadyH.nil
      refine op_run (.tmp 32) (.tmp 34) 117 117 rfl _ _ _ rfl rfl hrun ?_
      clear hHeld
      show K _ _
      refine hK.out _ _ (trivial) (fun hHeld => ?_)
      clear hK K
      refine wpAnyH_take (i := 13) (v := .pointer (some ⟨X, b, none⟩)) rfl (by kernel_rfl) (by kernel_rfl) (by kernel_rfl) (fun _ _ _ h => h) (Or.inl ⟨by rfl, fun w hSw => by (try dsimp only at hSw); go_simp⟩) trivial ?_
      try simp only [List.getElem_toArray, List.getElem_cons_zero, List.getElem_cons_succ, Act.put, List.setIfInBounds_toArray, List.set_cons_zero, List.set_cons_succ]
      refine wpAnyH_ready (rs := [14]) (by kernel_rfl) (by simp) ?_
      refine AllReadyH.cons (i := 14) rfl (fun K hK => ?_) AllReadyH.nil
      go_simp
      clear hHeld
      show K _ _
      refine hK.out _ _ (trivial) (fun hHeld => ?_)
      clear hK K
      try simp only [List.getElem_toArray, List.getElem_cons_zero, List.getElem_cons_succ, Act.put, List.setIfInBounds_toArray, List.set_cons_zero, List.set_cons_succ]
      refine wpAnyH_done (by kernel_rfl) ?_ _
      refine NoPanic.normal ?_
      go_wp2_with fail
      go_meet
      case rel => exact ⟨rfl, F5, V5, HA, HT6, HP6, HFs⟩
    refine AllReadyH.cons (i := 9) rfl (fun K hK => ?_) AllReadyH.nil
    go_simp
    clear hHeld
    show K _ _
    refine hK.out _ _ (trivial) (fun hHeld => ?_)
    clear hK K
    try simp only [List.getElem_toArray, List.getElem_cons_zero, List.getElem_cons_succ, Act.put, List.setIfInBounds_toArray, List.set_cons_zero, List.set_cons_succ]
    refine wpAnyH_ready (rs := [7]) (by kernel_rfl) (by simp) ?_
    refine AllReadyH.cons (i := 7) rfl (fun K hK => ?_) AllReadyH.nil
    go_simp
    clear hHeld
    show K _ _
    refine hK.out _ _ (trivial) (fun hHeld => ?_)
    clear hK K
    try simp only [List.getElem_toArray, List.getElem_cons_zero, List.getElem_cons_succ, Act.put, List.setIfInBounds_toArray, List.set_cons_zero, List.set_cons_succ]
    refine wpAnyH_ready (rs := [10]) (by kernel_rfl) (by simp) ?_
    refine AllReadyH.cons (i := 10) rfl (fun K hK => ?_) AllReadyH.nil
    refine op_run (.tmp 32) (.tmp 34) 117 117 rfl _ _ _ rfl rfl hrun ?_
    clear hHeld
    show K _ _
    refine hK.out _ _ (trivial) (fun hHeld => ?_)
    clear hK K
    refine wpAnyH_take (i := 13) (v := .pointer (some ⟨X, b, none⟩)) rfl (by kernel_rfl) (by kernel_rfl) (by kernel_rfl) (fun _ _ _ h => h) (Or.inl ⟨by rfl, fun w hSw => by (try dsimp only at hSw); go_simp⟩) trivial ?_
    try simp only [List.getElem_toArray, List.getElem_cons_zero, List.getElem_cons_succ, Act.put, List.setIfInBounds_toArray, List.set_cons_zero, List.set_cons_succ]
    refine wpAnyH_ready (rs := [14]) (by kernel_rfl) (by simp) ?_
    refine AllReadyH.cons (i := 14) rfl (fun K hK => ?_) AllReadyH.nil
    go_simp
    clear hHeld
    show K _ _
    refine hK.out _ _ (trivial) (fun hHeld => ?_)
    clear hK K
    try simp only [List.getElem_toArray, List.getElem_cons_zero, List.getElem_cons_succ, Act.put, List.setIfInBounds_toArray, List.set_cons_zero, List.set_cons_succ]
    refine wpAnyH_done (by kernel_rfl) ?_ _
    refine NoPanic.normal ?_
    go_wp2_with fail
    go_meet
    case rel => exact ⟨rfl, F5, V5, HA, HT6, HP6, HFs⟩
  case rest =>
    obtain ⟨rfl, F5, V5, HA, HT6, HP6, HFs⟩ := hcut
    obtain ⟨p0, p1, pf⟩ := at_cells2 HP6.out
    have hgk : g k = none := (full_none HFull.out).2 (fun z hz => HNo.out z (HPe.out.mem_iff.2 hz))
    have hset : ((L b) ++ [((0 : Int), (0 : Int))]).set (L b).length (d, k) = L b ++ [(d, k)] := by
      rw [List.set_append_right _ _ (Nat.le_refl _)]
      simp
    have hrise := rise_any b (L b).length (d, k) (L b ++ [(d, k)]) (by have := flat_len L hb; have := HPe.out.length_eq; have := HLw.out; simp; omega) hc3 hk
      (fun y hy => by
        rcases List.mem_append.1 hy with hy | hy
        · exact (HWfs.out y (flat_mem.2 ⟨b, hb, hy⟩)).1
        · simp at hy; rw [hy]; exact hk) wc HA.out
      ⟨by rw [upd_at]; simp, by rw [upd_at]; simp, by rw [upd_at, upd_upd, hset]; exact sync_new HFull.out hb hgk, by rw [upd_at, hset]; exact up_new (HHeap.out b hb), by rw [upd_at, hset], rfl⟩
      ((flat L).length + 1) (by rw [if_pos hgk])
    have HEnd : Hid (∀ (u : World) (l' : List It) (g' : Int → Option (Nat × Nat)), Tn F5 wc u → Wm u F5 X m V5 (upd L b l') g' ((flat L).length + 1) → Full (upd L b l') g' → Heap l' → l'.Perm (L b ++ [(d, k)]) → AddC F X (ins (d, k) M1) w (.returned (.tuple #[])) u) := hid (fun u l' g' h1 h2 h3 h4 h5 => by
      have h6 : l'.Perm ((d, k) :: L b) := h5.trans List.perm_append_comm
      have h7 := flat_in hb h6
      refine ⟨rfl, F5, ⟨tn_step HT6.out h1 HFs.out, HFs.out⟩, m, V5, upd L b l', g', ⟨?_, h3, heaps_upd HHeap.out h4, fun z hz => ?_⟩, (ins_perm _ _).trans ((HPe.out.cons _).trans h7.symm), srt_ins HSr.out HNo.out⟩
      · rw [h7.length_eq]; exact h2
      · rcases List.mem_cons.1 (h7.mem_iff.1 hz) with hz | hz
        · rw [hz]; exact ⟨hk, HD.out⟩
        · exact HWfs.out z hz)
    clear HFull HHeap HWfs HPe HNo HLw HSr HFs HW2 HP2 HT2 HT6 HA hgk hset
    go_wp2_with fail
    refine hrise.mono ?_
    rintro e w7 ⟨rfl, t7, l', g', h7, f7, hp7, q7⟩
    rw [upd_upd] at h7 f7
    have HZ := hid (HEnd.out _ _ _ t7 h7 f7 hp7 q7)
    clear hrise t7 h7 f7 hp7 q7
    go_wp2_with fail
    exact bodyPost_end (v := .tuple #[]) (by kernel_rfl) rfl HZ.out
end Go.Proofs.YthgbdaladngpdaaGreat.Whl

/- Where the library's sort lies in this program: at items and at records. No condition. -/
namespace Go.Proofs.YthgbdaladngpdaaGreat
open Go.ChangeShapes Go.WideShapes Go.ChangeAt Go.RowKit Go.Shelf
set_option linter.unusedVariables false

def renI : Go.Shelf.Ren := ⟨fun | 6 => 87 | 15 => 92 | 14 => 108 | 28 => 119 | 29 => 120 | 20 => 126 | 21 => 127 | 22 => 128 | 23 => 129 | 24 => 130 | 25 => 131 | 26 => 132 | 27 => 133 | 46 => 141 | 47 => 136 | 48 => 137 | 49 => 142 | 50 => 143 | 57 => 145 | n => n, fun | 22 => 117 | 24 => 123 | 25 => 128 | 3 => 3 | 39 => 130 | 0 => 0 | 53 => 31 | 55 => 30 | 4 => 4 | 46 => 150 | 45 => 149 | 50 => 80 | 5 => 5 | 9 => 9 | 66 => 163 | 70 => 167 | 76 => 172 | 77 => 173 | n => n, fun | n => n⟩
theorem layI : Go.Proofs.SlLaysF0.n6 Tryz.prog renI := {
  mixed := by kernel_rfl
  f6 := ⟨Tryz.f87.name, by decide, Tryz.func87.trans (congrArg some (by kernel_rfl))⟩
  f14 := ⟨Tryz.f108.name, by decide, Tryz.func108.trans (congrArg some (by kernel_rfl))⟩
  f15 := Tryz.func92.trans (congrArg some (by kernel_rfl))
  f20 := ⟨Tryz.f126.name, by decide, Tryz.func126.trans (congrArg some (by kernel_rfl))⟩
  f21 := ⟨Tryz.f127.name, by decide, Tryz.func127.trans (congrArg some (by kernel_rfl))⟩
  f22 := ⟨Tryz.f128.name, by decide, Tryz.func128.trans (congrArg some (by kernel_rfl))⟩
  f23 := ⟨Tryz.f129.name, by decide, Tryz.func129.trans (congrArg some (by kernel_rfl))⟩
  f24 := ⟨Tryz.f130.name, by decide, Tryz.func130.trans (congrArg some (by kernel_rfl))⟩
  f25 := ⟨Tryz.f131.name, by decide, Tryz.func131.trans (congrArg some (by kernel_rfl))⟩
  f26 := ⟨Tryz.f132.name, by decide, Tryz.func132.trans (congrArg some (by kernel_rfl))⟩
  f27 := ⟨Tryz.f133.name, by decide, Tryz.func133.trans (congrArg some (by kernel_rfl))⟩
  f28 := Tryz.func119.trans (congrArg some (by kernel_rfl))
  f29 := Tryz.func120.trans (congrArg some (by kernel_rfl))
  f46 := ⟨Tryz.f141.name, by decide, Tryz.func141.trans (congrArg some (by kernel_rfl))⟩
  f47 := Tryz.func136.trans (congrArg some (by kernel_rfl))
  f48 := Tryz.func137.trans (congrArg some (by kernel_rfl))
  f49 := ⟨Tryz.f142.name, by decide, Tryz.func142.trans (congrArg some (by kernel_rfl))⟩
  f50 := ⟨Tryz.f143.name, by decide, Tryz.func143.trans (congrArg some (by kernel_rfl))⟩
  f57 := ⟨Tryz.f145.name, by decide, Tryz.func145.trans (congrArg some (by kernel_rfl))⟩
  t0 := Tryz.underlying0
  a0 := Tryz.isAgg0
  z0 := Tryz.sizeOf0
  v0 := Tryz.zeroValue0
  t3 := Tryz.underlying3
  a3 := Tryz.isAgg3
  z3 := Tryz.sizeOf3
  v3 := Tryz.zeroValue3
  t4 := Tryz.underlying4
  a4 := Tryz.isAgg4
  z4 := Tryz.sizeOf4
  v4 := Tryz.zeroValue4
  t5 := Tryz.underlying5
  a5 := Tryz.isAgg5
  z5 := Tryz.sizeOf5
  v5 := Tryz.zeroValue5
  t9 := Tryz.underlying9
  a9 := Tryz.isAgg9
  z9 := Tryz.sizeOf9
  v9 := Tryz.zeroValue9
  t22 := Tryz.underlying117
  a22 := Tryz.isAgg117
  z22 := Tryz.sizeOf117
  v22 := Tryz.zeroValue117
  t25 := Tryz.underlying128
  a25 := Tryz.isAgg128
  z25 := Tryz.sizeOf128
  v25 := Tryz.zeroValue128
  t39 := Tryz.underlying130
  a39 := Tryz.isAgg130
  z39 := Tryz.sizeOf130
  v39 := Tryz.zeroValue130
  t45 := Tryz.underlying149
  a45 := Tryz.isAgg149
  z45 := Tryz.sizeOf149
  v45 := Tryz.zeroValue149
  t46 := Tryz.underlying150
  a46 := Tryz.isAgg150
  z46 := Tryz.sizeOf150
  v46 := Tryz.zeroValue150
  t50 := Tryz.underlying80
  a50 := Tryz.isAgg80
  z50 := Tryz.sizeOf80
  v50 := Tryz.zeroValue80
  t53 := Tryz.underlying31
  a53 := Tryz.isAgg31
  z53 := Tryz.sizeOf31
  v53 := Tryz.zeroValue31
  t55 := Tryz.underlying30
  a55 := Tryz.isAgg30
  z55 := Tryz.sizeOf30
  v55 := Tryz.zeroValue30
  t66 := Tryz.underlying163
  a66 := Tryz.isAgg163
  z66 := Tryz.sizeOf163
  v66 := Tryz.zeroValue163
  t70 := Tryz.underlying167
  a70 := Tryz.isAgg167
  z70 := Tryz.sizeOf167
  v70 := Tryz.zeroValue167
  t76 := Tryz.underlying172
  a76 := Tryz.isAgg172
  z76 := Tryz.sizeOf172
  v76 := Tryz.zeroValue172
  t77 := Tryz.underlying173
  a77 := Tryz.isAgg173
  z77 := Tryz.sizeOf173
  v77 := Tryz.zeroValue173 }
def renR : Go.Shelf.Ren := ⟨fun | 6 => 57 | 15 => 92 | 14 => 91 | 28 => 119 | 29 => 120 | 20 => 111 | 21 => 112 | 22 => 113 | 23 => 114 | 24 => 115 | 25 => 116 | 26 => 117 | 27 => 118 | 46 => 135 | 47 => 136 | 48 => 137 | 49 => 138 | 50 => 139 | 57 => 144 | n => n, fun | 22 => 29 | 24 => 42 | 25 => 82 | 3 => 3 | 39 => 130 | 0 => 0 | 53 => 31 | 55 => 30 | 4 => 4 | 46 => 150 | 45 => 149 | 50 => 80 | 5 => 5 | 9 => 9 | 66 => 163 | 70 => 167 | 76 => 172 | 77 => 173 | n => n, fun | n => n⟩
theorem layR : Go.Proofs.SlLaysF0.n6 Tryz.prog renR := {
  mixed := by kernel_rfl
  f6 := ⟨Tryz.f57.name, by decide, Tryz.func57.trans (congrArg some (by kernel_rfl))⟩
  f14 := ⟨Tryz.f91.name, by decide, Tryz.func91.trans (congrArg some (by kernel_rfl))⟩
  f15 := Tryz.func92.trans (congrArg some (by kernel_rfl))
  f20 := ⟨Tryz.f111.name, by decide, Tryz.func111.trans (congrArg some (by kernel_rfl))⟩
  f21 := ⟨Tryz.f112.name, by decide, Tryz.func112.trans (congrArg some (by kernel_rfl))⟩
  f22 := ⟨Tryz.f113.name, by decide, Tryz.func113.trans (congrArg some (by kernel_rfl))⟩
  f23 := ⟨Tryz.f114.name, by decide, Tryz.func114.trans (congrArg some (by kernel_rfl))⟩
  f24 := ⟨Tryz.f115.name, by decide, Tryz.func115.trans (congrArg some (by kernel_rfl))⟩
  f25 := ⟨Tryz.f116.name, by decide, Tryz.func116.trans (congrArg some (by kernel_rfl))⟩
  f26 := ⟨Tryz.f117.name, by decide, Tryz.func117.trans (congrArg some (by kernel_rfl))⟩
  f27 := ⟨Tryz.f118.name, by decide, Tryz.func118.trans (congrArg some (by kernel_rfl))⟩
  f28 := Tryz.func119.trans (congrArg some (by kernel_rfl))
  f29 := Tryz.func120.trans (congrArg some (by kernel_rfl))
  f46 := ⟨Tryz.f135.name, by decide, Tryz.func135.trans (congrArg some (by kernel_rfl))⟩
  f47 := Tryz.func136.trans (congrArg some (by kernel_rfl))
  f48 := Tryz.func137.trans (congrArg some (by kernel_rfl))
  f49 := ⟨Tryz.f138.name, by decide, Tryz.func138.trans (congrArg some (by kernel_rfl))⟩
  f50 := ⟨Tryz.f139.name, by decide, Tryz.func139.trans (congrArg some (by kernel_rfl))⟩
  f57 := ⟨Tryz.f144.name, by decide, Tryz.func144.trans (congrArg some (by kernel_rfl))⟩
  t0 := Tryz.underlying0
  a0 := Tryz.isAgg0
  z0 := Tryz.sizeOf0
  v0 := Tryz.zeroValue0
  t3 := Tryz.underlying3
  a3 := Tryz.isAgg3
  z3 := Tryz.sizeOf3
  v3 := Tryz.zeroValue3
  t4 := Tryz.underlying4
  a4 := Tryz.isAgg4
  z4 := Tryz.sizeOf4
  v4 := Tryz.zeroValue4
  t5 := Tryz.underlying5
  a5 := Tryz.isAgg5
  z5 := Tryz.sizeOf5
  v5 := Tryz.zeroValue5
  t9 := Tryz.underlying9
  a9 := Tryz.isAgg9
  z9 := Tryz.sizeOf9
  v9 := Tryz.zeroValue9
  t22 := Tryz.underlying29
  a22 := Tryz.isAgg29
  z22 := Tryz.sizeOf29
  v22 := Tryz.zeroValue29
  t25 := Tryz.underlying82
  a25 := Tryz.isAgg82
  z25 := Tryz.sizeOf82
  v25 := Tryz.zeroValue82
  t39 := Tryz.underlying130
  a39 := Tryz.isAgg130
  z39 := Tryz.sizeOf130
  v39 := Tryz.zeroValue130
  t45 := Tryz.underlying149
  a45 := Tryz.isAgg149
  z45 := Tryz.sizeOf149
  v45 := Tryz.zeroValue149
  t46 := Tryz.underlying150
  a46 := Tryz.isAgg150
  z46 := Tryz.sizeOf150
  v46 := Tryz.zeroValue150
  t50 := Tryz.underlying80
  a50 := Tryz.isAgg80
  z50 := Tryz.sizeOf80
  v50 := Tryz.zeroValue80
  t53 := Tryz.underlying31
  a53 := Tryz.isAgg31
  z53 := Tryz.sizeOf31
  v53 := Tryz.zeroValue31
  t55 := Tryz.underlying30
  a55 := Tryz.isAgg30
  z55 := Tryz.sizeOf30
  v55 := Tryz.zeroValue30
  t66 := Tryz.underlying163
  a66 := Tryz.isAgg163
  z66 := Tryz.sizeOf163
  v66 := Tryz.zeroValue163
  t70 := Tryz.underlying167
  a70 := Tryz.isAgg167
  z70 := Tryz.sizeOf167
  v70 := Tryz.zeroValue167
  t76 := Tryz.underlying172
  a76 := Tryz.isAgg172
  z76 := Tryz.sizeOf172
  v76 := Tryz.zeroValue172
  t77 := Tryz.underlying173
  a77 := Tryz.isAgg173
  z77 := Tryz.sizeOf173
  v77 := Tryz.zeroValue173 }
end Go.Proofs.YthgbdaladngpdaaGreat

/- The library's sort at the program's items, off the shelf; the contracts of compare, and of the sort by it. A row has at most 1000 items. -/
namespace Go.Proofs.YthgbdaladngpdaaGreat.Whl
open Go.ChangeShapes Go.WideShapes Go.ChangeAt Go.RowKit Go.Shelf
set_option linter.unusedVariables false
set_option maxRecDepth 100000
set_option linter.unusedSimpArgs false

def cmpI (a b : Int) : Int := if a < b then -1 else if b < a then 1 else 0
def orI (x y : Int) : Int := if x = 0 then y else x
theorem cmpI_cases (a b : Int) : (a < b ∧ cmpI a b = -1) ∨ (a = b ∧ cmpI a b = 0) ∨ (b < a ∧ cmpI a b = 1) := by
  unfold cmpI
  by_cases h : a < b
  · rw [if_pos h]; exact .inl ⟨h, rfl⟩
  · rw [if_neg h]
    by_cases k : b < a
    · rw [if_pos k]; exact .inr (.inr ⟨k, rfl⟩)
    · rw [if_neg k]; exact .inr (.inl ⟨by omega, rfl⟩)
theorem nanU (a : Int) (w : World) : Calls Tryz.prog 100 #[.int .u64 a] w fun e w' => e = .returned (.bool false) ∧ w' = w := by
  go_enter Tryz.func100, Tryz.ntmps100
  go_wp2
  go_ret
  exact ⟨by simp, rfl⟩
theorem nanS (a : Int) (w : World) : Calls Tryz.prog 134 #[.int .i64 a] w fun e w' => e = .returned (.bool false) ∧ w' = w := by
  go_enter Tryz.func134, Tryz.ntmps134
  go_wp2
  go_ret
  exact ⟨by simp, rfl⟩
theorem cmpU (a b : Int) (w : World) : Calls Tryz.prog 73 #[.int .u64 a, .int .u64 b] w fun e w' => e = .returned (.int .i64 (cmpI a b)) ∧ w' = w := by
  rcases cmpI_cases a b with ⟨h, e⟩ | ⟨h, e⟩ | ⟨h, e⟩
  all_goals
    rw [e]
    clear e
    go_enter Tryz.func73, Tryz.ntmps73
    go_wp2_with (go_at_call 100; refine (nanU _ _).mono ?_; rintro e w' ⟨rfl, rfl⟩)
    go_ret
    exact ⟨rfl, rfl⟩
theorem cmpS (a b : Int) (w : World) : Calls Tryz.prog 109 #[.int .i64 a, .int .i64 b] w fun e w' => e = .returned (.int .i64 (cmpI a b)) ∧ w' = w := by
  rcases cmpI_cases a b with ⟨h, e⟩ | ⟨h, e⟩ | ⟨h, e⟩
  all_goals
    rw [e]
    clear e
    go_enter Tryz.func109, Tryz.ntmps109
    go_wp2_with (go_at_call 134; refine (nanS _ _).mono ?_; rintro e w' ⟨rfl, rfl⟩)
    go_ret
    exact ⟨rfl, rfl⟩
/- The first that isn't 0. -/
def firstI : List Int → Int
  | [] => 0
  | x :: l => orI x (firstI l)
theorem first_drop (l : List Int) (k : Nat) (hk : k < l.length) : firstI (l.drop k) = orI l[k] (firstI (l.drop (k + 1))) := by
  rw [List.drop_eq_getElem_cons hk]; rfl
set_option maxHeartbeats 1600000 in
theorem or_any (l : List Int) (X : Nat) (w : World) (hl : l.length ≤ 5) (hc : ∀ k (hk : k < l.length), w.cell? ⟨X, k, none⟩ = some (.int .i64 l[k])) :
    Calls Tryz.prog 69 #[.slice (some ⟨X, 0, none⟩) l.length l.length] w fun e w' => e = .returned (.int .i64 (firstI l)) ∧ w' = w := by
  have HC : Hid (∀ k (hk : k < l.length), w.cell? ⟨X, k, none⟩ = some (.int .i64 l[k])) := hc
  clear hc
  obtain ⟨n, hn⟩ : ∃ n, n = l.length := ⟨_, rfl⟩
  have HL : Hid (l.length = n) := hn.symm
  rw [← hn] at hl ⊢
  clear hn
  go_enter Tryz.func69, Tryz.ntmps69
  go_wp2
  go_loop [5, 8] (fun i j => ∃ k : Nat, k ≤ n ∧ j = .int .i64 k ∧ Hid (firstI (l.drop k) = firstI l)) (fun _ j => n - (intOf j).toNat)
  case atStart => exact ⟨0, Nat.zero_le _, rfl, rfl⟩
  case round =>
    obtain ⟨k, hk, rfl, HF⟩ := hrel
    by_cases hlt : k < n
    · have hk' : k < l.length := by rw [HL.out]; exact hlt
      have hcell := HC.out k hk'
      have HN := first_drop l k hk'
      rw [HF.out] at HN
      have HN2 : Hid (firstI l = orI l[k] (firstI (l.drop (k + 1)))) := HN
      clear HN
      generalize l[k] = x at *
      by_cases hx : x = 0
      · have hx' : (x != 0) = false := by simpa using hx
        have HR : Hid (firstI (l.drop (k + 1)) = firstI l) := by show _ = _; rw [HN2.out, hx]; rfl
        clear hx
        go_wp2
        go_round
        case rel => exact ⟨k + 1, by omega, by go_num, HR⟩
        case measure => simp [intOf]; omega
      · have hx' : (x != 0) = true := by simpa using hx
        have HR : Hid (x = firstI l) := by show _ = _; rw [HN2.out]; unfold orI; rw [if_neg hx]
        clear hx
        go_wp2
        go_ret
        exact ⟨says_int HR.out, rfl⟩
    · have HR : Hid (0 = firstI l) := by
        show _ = _
        have := HF.out
        rw [List.drop_of_length_le (by rw [HL.out]; omega)] at this
        exact this
      go_wp2
      go_ret
      exact ⟨says_int HR.out, rfl⟩
def cf (x y : It) : Int := orI (cmpI x.1 y.1) (cmpI x.2 y.2)
theorem cf_first (x y : It) : firstI [cmpI x.1 y.1, cmpI x.2 y.2] = cf x y := by
  show orI _ (orI _ 0) = orI _ _
  congr 1
  unfold orI
  split
  · rename_i h; exact h.symm
  · rfl
set_option maxHeartbeats 1600000 in
theorem compare_any (x y : It) (W : World) : Calls Tryz.prog 88 #[.agg #[.int .u64 x.1, .int .i64 x.2], .agg #[.int .u64 y.1, .int .i64 y.2]] W fun e w' => e = .returned (.int .i64 (cf x y)) ∧ ∃ q os, w' = Go.Sort.grow (W.drewN q) os := by
  obtain ⟨c1, hc1⟩ : ∃ c1, cmpI x.1 y.1 = c1 := ⟨_, rfl⟩
  obtain ⟨c2, hc2⟩ : ∃ c2, cmpI x.2 y.2 = c2 := ⟨_, rfl⟩
  have HEnd : Hid (∃ q os, (((W.alloc (.cells #[.int .u64 x.1, .int .i64 x.2] 123)).alloc (.cells #[.int .u64 y.1, .int .i64 y.2] 123)).drew.alloc (.cells #[.int .i64 c1, .int .i64 c2] 3)) = Go.Sort.grow (W.drewN q) os) := hid ⟨1, _, by
    rw [Go.Sort.alloc_eq_grow, Go.Sort.alloc_eq_grow, Go.Sort.alloc_eq_grow, Go.Sort.grow_grow, Go.Sort.drew_grow, Go.Sort.grow_grow]
    rfl⟩
  have HP := hid (at_alloc (at_new W #[.int .u64 x.1, .int .i64 x.2] 123) (.cells #[.int .u64 y.1, .int .i64 y.2] 123))
  have HQ := hid (at_new (W.alloc (.cells #[.int .u64 x.1, .int .i64 x.2] 123)) #[.int .u64 y.1, .int .i64 y.2] 123)
  have e2 : (W.alloc (.cells #[.int .u64 x.1, .int .i64 x.2] 123)).heap.size = W.heap.size + 1 := by simp
  rw [e2] at HQ
  clear e2
  obtain ⟨w1, hw1⟩ : ∃ w1, (W.alloc (.cells #[.int .u64 x.1, .int .i64 x.2] 123)).alloc (.cells #[.int .u64 y.1, .int .i64 y.2] 123) = w1 := ⟨_, rfl⟩
  rw [hw1] at HP HQ HEnd
  obtain ⟨P1, hP1⟩ : ∃ P1, W.heap.size = P1 := ⟨_, rfl⟩
  obtain ⟨P2, hP2⟩ : ∃ P2, P1 + 1 = P2 := ⟨_, rfl⟩
  rw [hP1] at HP HQ
  rw [hP2] at HQ
  have HOr : Hid (Calls Tryz.prog 69 #[.slice (some ⟨w1.drew.heap.size, 0, none⟩) 2 2] (w1.drew.alloc (.cells #[.int .i64 c1, .int .i64 c2] 3)) fun e w' => e = .returned (.int .i64 (cf x y)) ∧ w' = w1.drew.alloc (.cells #[.int .i64 c1, .int .i64 c2] 3)) := hid (by
    have := or_any [c1, c2] w1.drew.heap.size (w1.drew.alloc (.cells #[.int .i64 c1, .int .i64 c2] 3)) (by simp) (fun k hk => by
      have h := at_new w1.drew #[.int .i64 c1, .int .i64 c2] 3
      match k, hk with
      | 0, _ => exact at_cell h 0
      | 1, _ => exact at_cell h 1
      | k + 2, hk => simp at hk; omega)
    rw [← hc1, ← hc2, cf_first, hc1, hc2] at this
    exact this)
  have HSX : Hid ((w1.drew.cell? ⟨P1, 0, none⟩ = some (.int .u64 x.1) ∧ w1.drew.cell? ⟨P1, 1, none⟩ = some (.int .i64 x.2) ∧ w1.drew.cell? ⟨P2, 0, none⟩ = some (.int .u64 y.1) ∧ w1.drew.cell? ⟨P2, 1, none⟩ = some (.int .i64 y.2)) ∧ ((w1.drew.alloc (.cells #[.int .i64 c1, .int .i64 c2] 3)).cell? ⟨P1, 0, none⟩ = some (.int .u64 x.1) ∧ (w1.drew.alloc (.cells #[.int .i64 c1, .int .i64 c2] 3)).cell? ⟨P1, 1, none⟩ = some (.int .i64 x.2) ∧ (w1.drew.alloc (.cells #[.int .i64 c1, .int .i64 c2] 3)).cell? ⟨P2, 0, none⟩ = some (.int .u64 y.1) ∧ (w1.drew.alloc (.cells #[.int .i64 c1, .int .i64 c2] 3)).cell? ⟨P2, 1, none⟩ = some (.int .i64 y.2)) ∧ True) := hid (by
    have a1 := at_alloc (at_drew HP.out) (.cells #[.int .i64 c1, .int .i64 c2] 3)
    have a2 := at_alloc (at_drew HQ.out) (.cells #[.int .i64 c1, .int .i64 c2] 3)
    exact ⟨⟨at_cell HP.out 0, at_cell HP.out 1, at_cell HQ.out 0, at_cell HQ.out 1⟩, ⟨at_cell a1 0, at_cell a1 1, at_cell a2 0, at_cell a2 1⟩, trivial⟩)
  have hS0 : w1.cell? ⟨P1, 0, none⟩ = some (.int .u64 x.1) ∧ w1.cell? ⟨P1, 1, none⟩ = some (.int .i64 x.2) ∧ w1.cell? ⟨P2, 0, none⟩ = some (.int .u64 y.1) ∧ w1.cell? ⟨P2, 1, none⟩ = some (.int .i64 y.2) := HSX.out.1
  clear HP HQ
  go_enter Tryz.func88, Tryz.ntmps88
  go_wp2_with fail
  refine wp_region_noPanic ?_
  refine wp_region_held_drew (S := (fun w' => w'.cell? ⟨P1, 0, none⟩ = some (.int .u64 x.1) ∧ w'.cell? ⟨P1, 1, none⟩ = some (.int .i64 x.2) ∧ w'.cell? ⟨P2, 0, none⟩ = some (.int .u64 y.1) ∧ w'.cell? ⟨P2, 1, none⟩ = some (.int .i64 y.2))) (by kernel_rfl) (by assumption) (fun hHeld => ?_)
  refine wpAnyH_take (i := 0) (v := .pointer (some ⟨P1, 0, none⟩)) rfl (by kernel_rfl) (by kernel_rfl) (by kernel_rfl) (fun _ _ _ h => h) (Or.inl ⟨by rfl, fun w hSw => by (try dsimp only at hSw); go_simp⟩) (by assumption) ?_
  try simp only [List.getElem_toArray, List.getElem_cons_zero, List.getElem_cons_succ, Act.put, List.setIfInBounds_toArray, List.set_cons_zero, List.set_cons_succ]
  refine wpAnyH_take (i := 1) (v := .int .u64 x.1) rfl (by kernel_rfl) (by kernel_rfl) (by kernel_rfl) (fun _ _ _ h => h) (Or.inl ⟨by rfl, fun w hSw => by (try dsimp only at hSw); go_simp⟩) (by assumption) ?_
  try simp only [List.getElem_toArray, List.getElem_cons_zero, List.getElem_cons_succ, Act.put, List.setIfInBounds_toArray, List.set_cons_zero, List.set_cons_succ]
  refine wpAnyH_take (i := 2) (v := .pointer (some ⟨P2, 0, none⟩)) rfl (by kernel_rfl) (by kernel_rfl) (by kernel_rfl) (fun _ _ _ h => h) (Or.inl ⟨by rfl, fun w hSw => by (try dsimp only at hSw); go_simp⟩) (by assumption) ?_
  try simp only [List.getElem_toArray, List.getElem_cons_zero, List.getElem_cons_succ, Act.put, List.setIfInBounds_toArray, List.set_cons_zero, List.set_cons_succ]
  refine wpAnyH_take (i := 3) (v := .int .u64 y.1) rfl (by kernel_rfl) (by kernel_rfl) (by kernel_rfl) (fun _ _ _ h => h) (Or.inl ⟨by rfl, fun w hSw => by (try dsimp only at hSw); go_simp⟩) (by assumption) ?_
  try simp only [List.getElem_toArray, List.getElem_cons_zero, List.getElem_cons_succ, Act.put, List.setIfInBounds_toArray, List.set_cons_zero, List.set_cons_succ]
  refine wpAnyH_take (i := 5) (v := .pointer (some ⟨P1, 1, none⟩)) rfl (by kernel_rfl) (by kernel_rfl) (by kernel_rfl) (fun _ _ _ h => h) (Or.inl ⟨by rfl, fun w hSw => by (try dsimp only at hSw); go_simp⟩) (by assumption) ?_
  try simp only [List.getElem_toArray, List.getElem_cons_zero, List.getElem_cons_succ, Act.put, List.setIfInBounds_toArray, List.set_cons_zero, List.set_cons_succ]
  refine wpAnyH_take (i := 6) (v := .int .i64 x.2) rfl (by kernel_rfl) (by kernel_rfl) (by kernel_rfl) (fun _ _ _ h => h) (Or.inl ⟨by rfl, fun w hSw => by (try dsimp only at hSw); go_simp⟩) (by assumption) ?_
  try simp only [List.getElem_toArray, List.getElem_cons_zero, List.getElem_cons_succ, Act.put, List.setIfInBounds_toArray, List.set_cons_zero, List.set_cons_succ]
  refine wpAnyH_take (i := 7) (v := .pointer (some ⟨P2, 1, none⟩)) rfl (by kernel_rfl) (by kernel_rfl) (by kernel_rfl) (fun _ _ _ h => h) (Or.inl ⟨by rfl, fun w hSw => by (try dsimp only at hSw); go_simp⟩) (by assumption) ?_
  try simp only [List.getElem_toArray, List.getElem_cons_zero, List.getElem_cons_succ, Act.put, List.setIfInBounds_toArray, List.set_cons_zero, List.set_cons_succ]
  refine wpAnyH_take (i := 8) (v := .int .i64 y.2) rfl (by kernel_rfl) (by kernel_rfl) (by kernel_rfl) (fun _ _ _ h => h) (Or.inl ⟨by rfl, fun w hSw => by (try dsimp only at hSw); go_simp⟩) (by assumption) ?_
  try simp only [List.getElem_toArray, List.getElem_cons_zero, List.getElem_cons_succ, Act.put, List.setIfInBounds_toArray, List.set_cons_zero, List.set_cons_succ]
  refine wpAnyH_ready (rs := [4]) (by kernel_rfl) (by simp) ?_
  refine AllReadyH.cons (i := 4) rfl (fun K hK => ?_) AllReadyH.nil
  go_simp
  refine (cmpU x.1 y.1 _).mono ?_
  rintro e1 w3 ⟨rfl, rfl⟩
  have hS := HSX.out.1
  clear hHeld
  show K _ _
  refine hK.out _ _ (by assumption) (fun hHeld => ?_)
  clear hK K
  try simp only [List.getElem_toArray, List.getElem_cons_zero, List.getElem_cons_succ, Act.put, List.setIfInBounds_toArray, List.set_cons_zero, List.set_cons_succ]
  refine wpAnyH_ready (rs := [9]) (by kernel_rfl) (by simp) ?_
  refine AllReadyH.cons (i := 9) rfl (fun K hK => ?_) AllReadyH.nil
  go_simp
  refine (cmpS x.2 y.2 _).mono ?_
  rintro e1 w4 ⟨rfl, rfl⟩
  have hS := HSX.out.1
  clear hHeld
  show K _ _
  refine hK.out _ _ (by assumption) (fun hHeld => ?_)
  clear hK K
  try simp only [List.getElem_toArray, List.getElem_cons_zero, List.getElem_cons_succ, Act.put, List.setIfInBounds_toArray, List.set_cons_zero, List.set_cons_succ]
  refine wpAnyH_ready (rs := [10]) (by kernel_rfl) (by simp) ?_
  refine AllReadyH.cons (i := 10) rfl (fun K hK => ?_) AllReadyH.nil
  go_simp
  have hS := HSX.out.2.1
  clear hHeld
  show K _ _
  refine hK.out _ _ (by assumption) (fun hHeld => ?_)
  clear hK K
  try simp only [List.getElem_toArray, List.getElem_cons_zero, List.getElem_cons_succ, Act.put, List.setIfInBounds_toArray, List.set_cons_zero, List.set_cons_succ]
  refine wpAnyH_ready (rs := [11]) (by kernel_rfl) (by simp) ?_
  refine AllReadyH.cons (i := 11) rfl (fun K hK => ?_) AllReadyH.nil
  go_simp
  refine (HOr.out).mono ?_
  rintro e1 w5 ⟨rfl, rfl⟩
  have hS := HSX.out.2.1
  clear hHeld
  show K _ _
  refine hK.out _ _ (by assumption) (fun hHeld => ?_)
  clear hK K
  try simp only [List.getElem_toArray, List.getElem_cons_zero, List.getElem_cons_succ, Act.put, List.setIfInBounds_toArray, List.set_cons_zero, List.set_cons_succ]
  refine wpAnyH_take (i := 12) (v := .int .i64 (cf x y)) rfl (by kernel_rfl) (by kernel_rfl) (by kernel_rfl) (fun _ _ _ h => h) (Or.inl ⟨by rfl, fun w hSw => by (try dsimp only at hSw); go_simp⟩) (by assumption) ?_
  try simp only [List.getElem_toArray, List.getElem_cons_zero, List.getElem_cons_succ, Act.put, List.setIfInBounds_toArray, List.set_cons_zero, List.set_cons_succ]
  refine wpAnyH_done (by kernel_rfl) ?_ _
  refine NoPanic.normal ?_
  go_wp2_with fail
  go_ret
  exact ⟨rfl, HEnd.out⟩
section
open Go.Shelf Go.RowKit Go.Lib Go.Sort
theorem lt_cf (x y : It) : ltOf cf x y = decide (Lt x y) := by
  unfold ltOf cf orI cmpI Lt
  by_cases h1 : x.1 < y.1
  · simp [h1]
  · by_cases h2 : y.1 < x.1
    · have h3 : ¬ x.1 = y.1 := by omega
      simp [h1, h2, h3]
    · have h3 : x.1 = y.1 := by omega
      by_cases h4 : x.2 < y.2
      · simp [h3, h4]
      · by_cases h5 : y.2 < x.2 <;> simp [h3, h4, h5]
theorem swo_cf : SWO (ltOf cf) where
  irrefl x := by rw [lt_cf]; simp [Lt]
  trans x y z h1 h2 := by rw [lt_cf] at *; simp only [decide_eq_true_eq] at *; exact lt_trans h1 h2
  ntrans x y z h1 h2 := by rw [lt_cf] at *; simp only [decide_eq_false_iff_not] at *; unfold Lt at *; omega
theorem tot_cf (x y : It) (h1 : ltOf cf x y = false) (h2 : ltOf cf y x = false) : x = y := by
  rw [lt_cf] at h1 h2
  simp only [decide_eq_false_iff_not] at h1 h2
  unfold Lt at h1 h2
  have e1 : x.1 = y.1 := by omega
  have e2 : x.2 = y.2 := by omega
  exact Prod.ext e1 e2
def encI (x : It) : List Value := [.int .u64 x.1, .int .i64 x.2]
def srtd (T : List It) : List It := T.mergeSort fun x y => !(ltOf cf) y x
theorem srtd_perm (T : List It) : (srtd T).Perm T := List.mergeSort_perm _ _
theorem srtd_pair (T : List It) : (srtd T).Pairwise (fun a b => Lt a b ∨ a = b) := by
  have h := List.pairwise_mergeSort (le := fun x y => !(ltOf cf) y x) (fun a b c h1 h2 => by
    rw [lt_cf] at *
    simp only [Bool.not_eq_true', decide_eq_false_iff_not] at *
    unfold Lt at *
    omega) (fun a b => by
    rw [lt_cf, lt_cf]
    simp only [Bool.or_eq_true, Bool.not_eq_true', decide_eq_false_iff_not]
    unfold Lt
    omega) T
  refine h.imp (fun {a b} h => ?_)
  rw [lt_cf] at h
  simp only [Bool.not_eq_true', decide_eq_false_iff_not] at h
  unfold Lt at *
  by_cases e1 : a.1 = b.1
  · by_cases e2 : a.2 = b.2
    · exact .inr (Prod.ext e1 e2)
    · exact .inl (by omega)
  · exact .inl (by omega)
/- A row of items that is read. -/
def RdT (w : World) (v : Value) (l : List It) : Prop := ∃ a c, v = .slice a l.length c ∧ (0 < l.length → ∃ q, a = some ⟨q, 0, none⟩ ∧ ∀ i x, l[i]? = some x → w.cell? ⟨q, i * 2, none⟩ = some (.int .u64 x.1) ∧ w.cell? ⟨q, i * 2 + 1, none⟩ = some (.int .i64 x.2))
theorem enc_at (x : It) (c : Nat) (hc : c < 2) : (encI x)[c]! = if c = 0 then .int .u64 x.1 else .int .i64 x.2 := by
  match c, hc with
  | 0, _ => rfl
  | 1, _ => rfl
theorem holds_row {w : World} {q n cap : Nat} {l : List It} (h : Row w (.slice (some ⟨q, 0, none⟩) n cap) l) : HoldsK encI 2 w q 0 l.toArray := by
  intro t ht
  rw [size_flatK] at ht
  rw [get_flatK _ _ _ _ ht]
  have hi : t / 2 < l.length := by simp at ht; omega
  have hx : l[t / 2]? = some l[t / 2] := List.getElem?_eq_getElem hi
  obtain ⟨c0, c1, cf⟩ := row_cells h hx
  have e : l.toArray[t / 2]! = l[t / 2] := by simp [hi]
  rw [e, enc_at _ _ (Nat.mod_lt _ (by omega))]
  refine ⟨?_, cf _⟩
  by_cases h0 : t % 2 = 0
  · rw [if_pos h0]
    rw [show 0 + t = t / 2 * 2 by omega]
    exact c0
  · rw [if_neg h0]
    rw [show 0 + t = t / 2 * 2 + 1 by omega]
    exact c1
theorem sorted_block (w : World) (q n : Nat) (d : Array It) (os : Array Obj) {k : Nat} (hk : k < w.heap.size) (hn : k ≠ q) : (sortWorldK encI 2 w q 0 n d os).heap[k]? = w.heap[k]? := by
  unfold sortWorldK putRowK putRow mapBlock
  rw [heap_grow_old _ _ (by simpa [ahead] using hk)]
  show (w.heap.modify q _)[k]? = _
  rw [Array.getElem?_modify, if_neg (Ne.symm hn)]
/- What the sort leaves. -/
def SortC (T : List It) (v : Value) (w : World) (e : Ending) (w' : World) : Prop :=
  e = .returned (.tuple #[]) ∧ (w'.os = w.os ∧ w'.output = w.output ∧ w.heap.size ≤ w'.heap.size ∧ ∀ k, k < w.heap.size → v.ownBlock ≠ some k → w'.heap[k]? = w.heap[k]?) ∧ RdT w' v (srtd T)
theorem sort_any (T : List It) (hT : T.length ≤ 1000) (v : Value) (w : World) (h : Row w v T) : Calls Tryz.prog 87 #[v, .func (.func 88) #[] #[]] w (SortC T v w) := by
  have hlen : (srtd T).length = T.length := (srtd_perm T).length_eq
  rcases Nat.eq_zero_or_pos T.length with h0 | h0
  · obtain ⟨a, cap, rfl⟩ := row_is h
    rw [h0]
    refine (AnyF.slices_SortFunc_none { layI with } a cap (.func (.func 88) #[] #[]) w).mono ?_
    rintro e w' ⟨rfl, rfl⟩
    exact ⟨rfl, ⟨rfl, rfl, Nat.le_refl _, fun _ _ _ => rfl⟩, a, cap, by rw [hlen, h0], fun hp => by omega⟩
  · obtain ⟨q, cap, rfl, hc, hm⟩ := row_some h h0
    have hq : q < w.heap.size := by
      obtain ⟨cs, hcs⟩ := row_at h (q := q) rfl
      exact at_lt hcs
    have eg : ∀ args w, (callFunc 88 args).run Tryz.prog w = .ok (.enter 88 args) w := enters_of Tryz.func88 (by kernel_rfl) rfl
    have hH := holds_row h
    have hcon := AnyQ.slices_SortFunc_total layI 2 Tryz.isAgg123 Tryz.sizeOf123 encI (fun _ => rfl) (fun x v hv => by
      simp [encI] at hv
      rcases hv with rfl | rfl <;> rfl) cf swo_cf 88 #[] q 0 cap T.toArray w eg (fun _ _ _ _ x y => compare_any x y _) hH hq (by simp; omega) tot_cf
    refine (show Calls Tryz.prog 87 _ _ _ from hcon).mono ?_
    rintro e w' ⟨rfl, n, os, rfl⟩
    refine ⟨rfl, ⟨rfl, rfl, ?_, fun k hk hn => sorted_block w q n _ os hk (fun e => hn (by rw [e]; rfl))⟩, some ⟨q, 0, none⟩, cap, by rw [hlen], fun _ => ⟨q, rfl, fun i x hx => ?_⟩⟩
    · unfold sortWorldK putRowK putRow mapBlock
      rw [size_grow]
      show w.heap.size ≤ (w.heap.modify q _).size + _
      simp
    · have hi := lt_of_some hx
      have h1 : HoldsK encI 2 (sortWorldK encI 2 w q 0 n (T.mergeSort fun x y => !(ltOf cf) y x).toArray os) q 0 (srtd T).toArray :=
        holdsK_grow encI 2 _ _ _ _ _ (by simpa [putRowK, ahead] using hq) (holdsK_putRowK encI 2 _ _ _ T.toArray _ (holdsK_ahead encI 2 _ _ _ _ _ hH) (by simp))
      have h2 := fun c (hc : c < 2) => h1.cell (i := i) (c := c) (by simpa using hi) hc
      have e : (srtd T).toArray[i]! = x := by
        rw [List.getElem?_eq_getElem hi] at hx
        injection hx with hx
        simp [hi, hx]
      have c0 := (h2 0 (by omega))
      have c1 := (h2 1 (by omega))
      rw [e] at c0 c1
      rw [Nat.zero_add] at c0 c1
      exact ⟨c0.1, c1.1⟩
end
end Go.Proofs.YthgbdaladngpdaaGreat.Whl
