/- The contract of Due: what is due, by times, of one time by ids; the rest stays. A wheel has at most 1000 items. -/
import Derived.Test.YthgbdaladngpdaaGreatWhlInts
import Derived.Test.YthgbdaladngpdaaGreatWhlSort
namespace Go.Proofs.YthgbdaladngpdaaGreat.Whl
open Go.ChangeShapes Go.WideShapes Go.ChangeAt Go.RowKit
set_option linter.unusedVariables false
set_option maxRecDepth 100000
set_option linter.unusedSimpArgs false

def ids (l : List It) : List Int := l.map (·.2)
theorem due_nil (t : Int) (w : World) : Calls Tryz.prog 51 #[.pointer none, .int .u64 t] w fun e w' => e = .returned (.slice none 0 0) ∧ w' = w := by
  go_enter Tryz.func51, Tryz.ntmps51
  go_wp2_with fail
  go_ret
  exact ⟨rfl, rfl⟩
/- While it goes on: what was taken out, and what is left. -/
structure DS (F : Nat → Prop) (X : Nat) (M : List It) (t : Int) (w wr : World) (v : Value) (k : Nat) (T : List It) (m : Nat) (V : Nat → Value) (L : Nat → List It) (g : Int → Option (Nat × Nat)) : Prop where
  gl : GL wr F X m V L g
  own : wr.ownsRow w.heap.size 123 2 v T.length (iw T)
  perm : M.Perm (T ++ flat L)
  told : ∀ x ∈ T, x.1 ≤ t
  left : ∀ b, b < k → ∀ x ∈ L b, t < x.1
  tn : Tn F w wr
section
variable {F : Nat → Prop} {X : Nat} {M : List It} {t : Int} {w wr u : World} {v : Value} {k : Nat} {T : List It} {m : Nat} {V : Nat → Value} {L : Nat → List It} {g : Int → Option (Nat × Nat)}
theorem own_row {B n : Nat} (h : w.ownsRow B 123 2 v n (iw T)) (e : T.length = n) : Row w v T := by
  subst e
  refine ⟨h.1, ?_⟩
  rcases h.2 with hn | ⟨q, cap, cur, rfl, hg, rest⟩
  · exact .inl hn
  · exact .inr ⟨q, cap, cur, rfl, Nat.zero_le _, rest⟩
theorem ds_lt (h : DS F X M t w wr v k T m V L g) : T.length + (flat L).length = M.length := by rw [h.perm.length_eq]; simp
theorem ds_len (h : DS F X M t w wr v k T m V L g) : lenV v = T.length := by
  obtain ⟨a, cap, e⟩ := row_is (own_row h.own rfl)
  rw [e]; rfl
theorem ds_next (h : DS F X M t w wr v k T m V L g) (hk : ∀ x ∈ L k, t < x.1) : DS F X M t w wr v (k + 1) T m V L g :=
  ⟨h.gl, h.own, h.perm, h.told, fun b hb x hx => by
    by_cases e : b = k
    · subst e; exact hk x hx
    · exact h.left b (by omega) x hx, h.tn⟩
theorem ds_over (h : DS F X M t w wr v k T m V L g) (hb : k < 64) {x : It} (hx : (L k)[0]? = some x) (ht : ¬ x.1 ≤ t) : ∀ y ∈ L k, t < y.1 := fun y hy => by
  obtain ⟨j, hj⟩ := List.getElem?_of_mem hy
  have := heap_min (h.gl.heap k hb) j (lt_of_some hj)
  rw [du_some hx, du_some hj] at this
  omega
/- One is taken out: the row that is told stands. -/
theorem own_tn59 {B n : Nat} {xs : List Value} (h : w.ownsRow B 123 2 v n xs) (tn : Tn F w u) (hF : ∀ j, F j → j < B) : u.ownsRow B 123 2 v n xs := by
  refine ⟨h.1, ?_⟩
  rcases h.2 with hn | ⟨q, cap, cur, rfl, hb, hg, rest⟩
  · exact .inl hn
  · exact .inr ⟨q, cap, cur, rfl, hb, (tn.2.2.2 q (at_lt hg) (fun hf => by have := hF q hf; omega)).trans hg, rest⟩
theorem gl_same {w' : World} (h : GL w F X m V L g) (hs : ∀ j, F j → w'.heap[j]? = w.heap[j]?) (hz : w.heap.size ≤ w'.heap.size) : GL w' F X m V L g := by
  have hm := h.mem
  obtain ⟨cs, h1, h2⟩ := hm.obj
  exact ⟨⟨⟨cs, (hs X hm.fX).trans h1, h2⟩, whr_block hm.map (hs m hm.fm), fun b hb => row_block (hm.row b hb) (fun q _ hq _ => hs q (hm.fV b q hb hq)), hm.apart, hm.fX, hm.fm, hm.fV, fun j hj => Nat.lt_of_lt_of_le (hm.low j hj) hz⟩, h.full, h.heap, h.wf⟩
end
theorem ds_take {F : Nat → Prop} {X : Nat} {M : List It} {t : Int} {w wr w2 w4 : World} {v v4 : Value} {k : Nat} {T : List It} {m : Nat} {V V2 : Nat → Value} {L : Nat → List It} {g g2 : Int → Option (Nat × Nat)} {x : It} {l2 : List It} {o : Obj}
    (h : DS F X M t w wr v k T m V L g) (hb : k < 64) (ht : x.1 ≤ t) (hF : ∀ j, F j → j < w.heap.size) (t2 : Tn F wr w2) (gl2 : GL w2 F X m V2 (upd L k l2) g2) (p2 : (L k).Perm (x :: l2))
    (hg : (w2.alloc o).grownBy w4 v.ownBlock) (ho : w4.ownsRow w.heap.size 123 2 v4 (T.length + 1) (iw T ++ [.int .u64 x.1, .int .i64 x.2])) : DS F X M t w w4 v4 k (T ++ [x]) m V2 (upd L k l2) g2 := by
  have hlo := World.ownsRow.lt h.own
  have hbk : ∀ j, j < (w2.alloc o).heap.size → j < w.heap.size → w4.heap[j]? = (w2.alloc o).heap[j]? := fun j h1 h2 => hg.block j h1 (fun e => by
    have := (hlo j e.symm).1
    omega)
  have hsz : w.heap.size ≤ w2.heap.size := Nat.le_trans h.tn.2.2.1 t2.2.2.1
  have k3 := kept_alloc (kept_refl w2) o
  have tn2 := tn_trans h.tn t2
  refine ⟨gl_same (gl_kept gl2 k3) (fun j hj => hbk j (by have := hF j hj; have := k3.2; omega) (hF j hj)) hg.size, ?_, ?_, ?_, ?_, ?_⟩
  · rw [show (T ++ [x]).length = T.length + 1 by simp, iw_app]
    exact ho
  · refine h.perm.trans ?_
    rw [List.append_assoc]
    exact (flat_out hb p2).append_left T
  · intro y hy
    rcases List.mem_append.1 hy with hy | hy
    · exact h.told y hy
    · simp at hy; rw [hy]; exact ht
  · intro b hb' y hy
    rw [upd_ne _ _ (by omega)] at hy
    exact h.left b hb' y hy
  · have tn3 := tn_trans tn2 (tn_kept k3)
    exact ⟨hg.os.trans tn3.1, hg.output.trans tn3.2.1, Nat.le_trans tn3.2.2.1 hg.size, fun j hj hn => (hbk j (Nat.lt_of_lt_of_le hj tn3.2.2.1) hj).trans (tn3.2.2.2 j hj hn)⟩
/- What Due answers and leaves. -/
def DueC (F : Nat → Prop) (X : Nat) (M : List It) (t : Int) (w : World) (e : Ending) (w' : World) : Prop :=
  ∃ v, e = .returned v ∧ OwnI w' w.heap.size v (ids (due M t)) ∧ Tn F w w' ∧ Good w' F X (aft M t)
def DueC2 (F : Nat → Prop) (X : Nat) (M : List It) (t : Int) (w : World) (e : Ending) (w' : World) : Prop :=
  ∃ v, e = .returned v ∧ OwnI w' w.heap.size v (ids (due M t)) ∧ Tn F w w' ∧ Good w' F X (aft M t) ∧ v ≠ .slice none 0 0
theorem srt_aft {M : List It} (h : Srt M) (t : Int) : Srt (aft M t) := srt_sub h List.filter_sublist
theorem srt_due {M : List It} (h : Srt M) (t : Int) : Srt (due M t) := srt_sub h List.filter_sublist
theorem make_ints (w : World) (n : Nat) (hn : n ≤ 4096) :
    (Instr.makeSlice 90 (.int .i64 (n : Int)) (.int .i64 (n : Int))).run Tryz.prog w = .ok (.slice (some ⟨w.heap.size, 0, none⟩) n n) (w.alloc (.cells (madeCells #[.int .i64 0] (n * 1)) 3)) := by
  obtain ⟨i0, hi, hz0, hz1, hz2⟩ := info_parts info3
  have := run_make (P := Tryz.prog) w 90 3 i0 _ Tryz.underlying90 hi hz0 .i64 .i64 (n : Int) (n : Int) (by omega) (by omega) (by rw [hz2]; omega) (by omega)
  rw [this, hz1]
  rfl
/- A row of numbers that is filled. -/
def Fill (w : World) (N n : Nat) (l : List It) (k : Nat) : Prop := ∃ cs, At w N cs 3 ∧ cs.size = n ∧ ∀ i x, i < k → l[i]? = some x → cs[i]? = some (.int .i64 x.2)
theorem fill_made (w : World) (n : Nat) (l : List It) : Fill (w.alloc (.cells (madeCells #[.int .i64 0] (n * 1)) 3)) w.heap.size n l 0 := ⟨_, at_new w _ 3, by unfold madeCells; simp, fun i x h => by omega⟩
theorem fill_kept {w w' : World} {N n k : Nat} {l : List It} (h : Fill w N n l k) (kk : Kept w w') : Fill w' N n l k := by
  obtain ⟨cs, h1, h2⟩ := h
  exact ⟨cs, at_kept h1 kk, h2⟩
theorem fill_next {w : World} {N n k : Nat} {l : List It} (h : Fill w N n l k) {x : It} (hx : l[k]? = some x) (hk : k < n) : Fill (w.setCell ⟨N, k, none⟩ (.int .i64 x.2)) N n l (k + 1) := by
  obtain ⟨cs, h1, h2, h3⟩ := h
  refine ⟨_, at_set h1 _ _, by simpa using h2, fun i y hi hy => ?_⟩
  rw [Array.getElem?_setIfInBounds]
  by_cases e : k = i
  · subst e
    rw [if_pos rfl, if_pos (by omega)]
    rw [hx] at hy
    injection hy with hy
    rw [hy]
  · rw [if_neg e]
    exact h3 i y (by omega) hy
theorem fill_cell {w : World} {N n k : Nat} {l : List It} (h : Fill w N n l k) (hk : k < n) : ∃ u, w.cell? ⟨N, k, none⟩ = some u ∧ w.frozen? ⟨N, k, none⟩ = false := by
  obtain ⟨cs, h1, h2, h3⟩ := h
  exact ⟨cs[k], (at_cell h1 _).trans (Array.getElem?_eq_getElem (by omega)), at_frozen h1 _⟩
theorem fill_own {w : World} {N n B : Nat} {l : List It} (h : Fill w N n l n) (hn : l.length = n) (hB : B ≤ N) (h4 : n ≤ 4096) : OwnI w B (.slice (some ⟨N, 0, none⟩) n n) (ids l) := by
  obtain ⟨cs, h1, h2, h3⟩ := h
  have hl : (ids l).length = n := by unfold ids; simpa using hn
  refine ⟨by rw [iv_len, Nat.mul_one], .inr ⟨N, n, cs, by rw [hl], hB, h1, by omega, by unfold maxLen; omega, by omega, ?_⟩⟩
  rw [hl, Nat.mul_one]
  apply List.ext_getElem?
  intro i
  rw [List.getElem?_take]
  split
  · rename_i hi
    have hx : l[i]? = some l[i] := List.getElem?_eq_getElem (by omega)
    have := h3 i _ hi hx
    unfold iv ids
    simp only [List.map_map, List.getElem?_map, hx, Option.map_some, Function.comp]
    simpa using this
  · rename_i hi
    rw [List.getElem?_eq_none (by rw [iv_len, hl]; omega)]
set_option maxHeartbeats 6400000 in
theorem due_all {F : Nat → Prop} {X : Nat} {M : List It} (t : Int) (hM : M.length ≤ 1000) (w : World) (h : Good w F X M) : Calls Tryz.prog 51 #[.pointer (some ⟨X, 0, none⟩), .int .u64 t] w (DueC2 F X M t w) := by
  have HF : Hid (∀ j, F j → j < w.heap.size) := hid (good_low h)
  obtain ⟨m, V, L, g, h1, h2, h3⟩ := h
  have HS := hid h3
  have HD0 : Hid (∃ T m V L g, DS F X M t w w (.slice none 0 0) 0 T m V L g) := hid ⟨[], m, V, L, g, h1, World.ownsRow_nil w _ 123 2, by simpa using h2, fun x hx => (by cases hx), fun b hb => (by omega), tn_refl⟩
  have HTk : Hid (∀ wr v k T m V L g x, DS F X M t w wr v k T m V L g → k < 64 → (L k)[0]? = some x → Calls Tryz.prog 86 #[.pointer (some ⟨X, 0, none⟩), .agg #[.int .i64 (k : Int), .int .i64 ((0 : Nat) : Int)]] wr (OutC F X m L k x wr)) := hid (fun wr v k T m V L g x hd hk hx => take_any k 0 x (by have := ds_lt hd; omega) hk hx wr hd.gl)
  obtain ⟨i0, hi, hz0, hz1, hz2⟩ := info_parts (P := Tryz.prog) (e := 123) info59
  have HI := hid (And.intro hi (And.intro hz0 (And.intro hz1 hz2)))
  clear h1 h2 h3 hi hz0 hz1 hz2
  go_enter Tryz.func51, Tryz.ntmps51
  go_wp2_with fail
  go_loopw [5, 6, 12] (fun v b j wr => ∃ k : Nat, k ≤ 64 ∧ j = .int .i64 (k : Int) ∧ Hid (∃ T m V L g, DS F X M t w wr v k T m V L g)) (fun _ _ j _ => 64 - (intOf j).toNat)
  case atStart => exact ⟨0, by omega, rfl, HD0⟩
  case round =>
    clear HD0
    obtain ⟨k, hk, rfl, HD⟩ := hrel
    by_cases hlt : k < 64
    · have hkd : decide ((k : Int) < 64) = true := by simp; omega
      go_wp2_with fail
      try rw [hkd]
      go_loopw [5] (fun v wr => True ∧ Hid (∃ T m V L g, DS F X M t w wr v k T m V L g)) (fun v _ => M.length - lenV v)
      case atStart => exact ⟨trivial, HD⟩
      case round =>
        clear HD
        obtain ⟨T, m, V, L, g, hd⟩ := hrel.2.out
        obtain ⟨va, cap, hv⟩ := row_is (hd.gl.mem.row k hlt)
        have c0 := (wm_cell hd.gl.mem hlt).1
        rw [hv] at c0
        have hTl := ds_lt hd
        have hl : (L k).length ≤ 1000 := by have := flat_len L hlt; omega
        have hk2 : ¬ (64 : Int) ≤ (k : Int) := by omega
        rcases Nat.eq_zero_or_pos (L k).length with hz | hz
        · rw [hz] at c0
          have HN : Hid (∃ T m V L g, DS F X M t w wr u5 (k + 1) T m V L g) := hid ⟨T, m, V, L, g, ds_next hd (fun x hx => by rw [List.eq_nil_of_length_eq_zero hz] at hx; cases hx)⟩
          clear hd hv hl hz hTl hrel
          go_wp2_with fail
          go_roundw
          case rel => exact ⟨k + 1, by omega, by go_num, HN⟩
          case measure => simp [intOf]; omega
        · have hr := hd.gl.mem.row k hlt
          obtain ⟨q, cap2, hv2, _⟩ := row_some hr hz
          rw [hv2] at hv
          injection hv with e1 e2 e3
          clear e2
          subst e1 e3
          obtain ⟨x, hx⟩ : ∃ x, (L k)[0]? = some x := ⟨(L k)[0], List.getElem?_eq_getElem hz⟩
          rw [hv2] at hr
          have r0 := (row_cells hr hx).1
          rw [Nat.zero_mul] at r0
          have hn2 : (0 : Int) < ((L k).length : Int) := by omega
          have hn3 : ¬ ((L k).length : Int) ≤ 0 := by omega
          by_cases ht : x.1 ≤ t
          · have htk := HTk.out wr u5 k T m V L g x hd hlt hx
            have HDd := hid hd
            have HM := hid (ds_len hd)
            have HTl := hid hTl
            have hTs : T.length < M.length := by have := flat_len L hlt; omega
            clear hd hx hr hv2 hTl hrel
            generalize (L k).length = n at *
            go_wp2_with fail
            refine htk.mono ?_
            rintro e w2 ⟨rfl, t2, V2, l2, g2, gl2, p2⟩
            have HO2 := hid (World.ownsRow.alloc (own_tn59 HDd.out.own t2 HF.out) (.cells #[.int .u64 x.1, .int .i64 x.2] 123))
            have HNew := hid (fun v4 w4 => ds_take (v4 := v4) (w4 := w4) (o := .cells #[.int .u64 x.1, .int .i64 x.2] 123) HDd.out hlt ht HF.out t2 gl2 p2)
            have HB : Hid (w.heap.size ≤ w2.heap.size) := hid (Nat.le_trans HDd.out.tn.2.2.1 t2.2.2.1)
            have HA := hid (at_new w2 #[.int .u64 x.1, .int .i64 x.2] 123)
            clear htk t2 gl2 p2 c0 r0 hn2 hn3
            go_wp2_with (at_builtin; go_must (refine wpList_append_own _ rfl (.tmp 36) (.tmp 41) 117 rfl w.heap.size 123 i0 (.agg #[.int .u64 0, .int .i64 0]) 2 16 Tryz.underlying117 HI.out.1 HI.out.2.1 HI.out.2.2.1 HI.out.2.2.2 rfl (by decide) _ _ _ rfl HO2.out ⟨w2.heap.size, 0, none⟩ 1 1 [.int .u64 x.1, .int .i64 x.2] rfl rfl (item_cells HA.out) (by intro u hu; simp at hu; rcases hu with rfl | rfl <;> rfl) (by unfold maxLen; omega) (by omega) (by have := HB.out; simp; omega) ?_; intro v3 w3 hown3 hgrow3 hnil3))
            have HDn := hid (HNew.out v3 w3 hgrow3 hown3)
            clear hown3 hgrow3 hnil3 HNew HO2 HA
            go_roundw
            case rel => exact ⟨trivial, hid ⟨_, _, _, _, _, HDn.out⟩⟩
            case measure =>
              rw [HM.out, ds_len HDn.out]
              simp
              omega
          · have hd2 : decide (x.1 ≤ t) = false := by simpa using ht
            have HN : Hid (∃ T m V L g, DS F X M t w wr u5 (k + 1) T m V L g) := hid ⟨T, m, V, L, g, ds_next hd (ds_over hd hlt hx ht)⟩
            clear hd hx hr hv2 hTl ht hrel
            generalize (L k).length = n at *
            go_wp2_with fail
            go_roundw
            case rel => exact ⟨k + 1, by omega, by go_num, HN⟩
            case measure => simp [intOf]; omega
    · have hke : k = 64 := by omega
      subst hke
      clear hlt hk
      obtain ⟨T, m, V, L, g, hd⟩ := HD.out
      obtain ⟨hT, hR⟩ := due_unique (T := T) (R := flat L) HS.out hd.perm hd.told (fun x hx => by
        obtain ⟨b, hb, hx⟩ := flat_mem.1 hx
        exact hd.left b hb x hx)
      have hTl := ds_lt hd
      have hsort := sort_any T (by omega) u5 wr (own_row hd.own rfl)
      have hse : srtd T = due M t := sort_unique ((srtd_perm T).trans hT) (srtd_pair T) (srt_due HS.out t)
      have hdl : (due M t).length ≤ 1000 := by rw [← hT.length_eq]; omega
      have HSE := hid hse
      have HDd := hid hd
      have HR := hid hR
      clear hd hT hR hTl hse HTk HI HD
      go_wp2_with fail
      refine hsort.mono ?_
      rintro e w2 ⟨rfl, ⟨o1, o2, o3, o4⟩, rd⟩
      rw [HSE.out] at rd
      have hlo := World.ownsRow.lt HDd.out.own
      have HG2 := hid (gl_same HDd.out.gl (fun j hj => o4 j (Nat.lt_of_lt_of_le (HF.out j hj) HDd.out.tn.2.2.1) (fun e => by have := (hlo j e).1; have := HF.out j hj; omega)) o3)
      have HT2 : Hid (Tn F w w2) := hid ⟨o1.trans HDd.out.tn.1, o2.trans HDd.out.tn.2.1, Nat.le_trans HDd.out.tn.2.2.1 o3, fun j hj hn => (o4 j (Nat.lt_of_lt_of_le hj HDd.out.tn.2.2.1) (fun e => by have := (hlo j e).1; omega)).trans (HDd.out.tn.2.2.2 j hj hn)⟩
      have HE : Hid (∀ (u : World) (N : Nat), Kept w2 u → w2.heap.size ≤ N → Fill u N (due M t).length (due M t) (due M t).length → DueC2 F X M t w (.returned (.slice (some ⟨N, 0, none⟩) (due M t).length (due M t).length)) u) := hid (fun u N ku hN hf => ⟨_, rfl, fill_own hf rfl (Nat.le_trans HT2.out.2.2.1 hN) (by omega), tn_trans HT2.out (tn_kept ku), ⟨m, V, L, g, gl_kept HG2.out ku, HR.out.symm, srt_aft HS.out t⟩, by simp⟩)
      obtain ⟨a, c, hu5, hrd⟩ := rd
      have HRd : Hid (∀ k x, (due M t)[k]? = some x → ∃ q, a = some ⟨q, 0, none⟩ ∧ w2.cell? ⟨q, k * 2, none⟩ = some (.int .u64 x.1) ∧ w2.cell? ⟨q, k * 2 + 1, none⟩ = some (.int .i64 x.2)) := hid (fun k x hx => by
        obtain ⟨q, e, hq⟩ := hrd (Nat.lt_of_le_of_lt (Nat.zero_le _) (lt_of_some hx))
        exact ⟨q, e, hq k x hx⟩)
      have hmk := make_ints w2 (due M t).length (by omega)
      have HFi := hid (fill_made w2 (due M t).length (due M t))
      have HK3 := hid (kept_alloc (kept_refl w2) (.cells (madeCells #[.int .i64 0] ((due M t).length * 1)) 3))
      have HN : Hid (w2.heap.size ≤ w2.heap.size) := hid (Nat.le_refl _)
      have HX : Hid (∀ k, k < (due M t).length → ∃ x, (due M t)[k]? = some x) := hid (fun k hk => ⟨(due M t)[k], List.getElem?_eq_getElem hk⟩)
      clear hsort o1 o2 o3 o4 hlo hrd HG2 HT2 HR HSE HDd HS HF
      subst hu5
      generalize hnn : (due M t).length = n at *
      generalize hw3 : w2.alloc (.cells (madeCells #[.int .i64 0] (n * 1)) 3) = w3 at *
      clear hw3
      generalize hN : w2.heap.size = N at HFi HN hmk
      have HN2 : Hid (w2.heap.size ≤ N) := hid (by omega)
      clear hN HN
      go_wp2_with fail
      go_loopw [8, 9, 51] (fun i p j wr => ∃ k : Nat, k ≤ n ∧ j = .int .i64 (k : Int) ∧ Hid (Kept w2 wr) ∧ Hid (Fill wr N n (due M t) k)) (fun _ _ j _ => n - (intOf j).toNat)
      case atStart => exact ⟨0, Nat.zero_le _, rfl, HK3, HFi⟩
      case round =>
        clear HK3 HFi
        obtain ⟨k, hk, rfl, HK, HFi⟩ := hrel
        by_cases hlt : k < n
        · obtain ⟨x, hx⟩ := HX.out k hlt
          obtain ⟨q, rfl, q0, q1⟩ := HRd.out k x hx
          have c0 := (kept_cell HK.out (cell_lt q0)).trans q0
          have c1 := (kept_cell HK.out (cell_lt q1)).trans q1
          have HK4 := hid (kept_alloc HK.out (.cells #[.int .u64 x.1, .int .i64 x.2] 123))
          have HF4 := hid (fill_kept HFi.out (kept_alloc (kept_refl _) (.cells #[.int .u64 x.1, .int .i64 x.2] 123)))
          have HA4 := hid (at_new wr #[.int .u64 x.1, .int .i64 x.2] 123)
          obtain ⟨w4, hw4⟩ : ∃ w4, wr.alloc (.cells #[.int .u64 x.1, .int .i64 x.2] 123) = w4 := ⟨_, rfl⟩
          obtain ⟨P, hP⟩ : ∃ P, wr.heap.size = P := ⟨_, rfl⟩
          rw [hw4] at HK4 HF4 HA4
          rw [hP] at HA4
          obtain ⟨u, n0, nf⟩ := fill_cell HF4.out hlt
          obtain ⟨a0, a1, af⟩ := at_cells2 HA4.out
          obtain ⟨w5, hw5⟩ : ∃ w5, w4.setCell ⟨N, k, none⟩ (.int .i64 x.2) = w5 := ⟨_, rfl⟩
          have HF5 := hid (fill_next HF4.out hx hlt)
          have HK5 := hid (kept_set HK4.out HN2.out k (.int .i64 x.2))
          rw [hw5] at HF5 HK5
          clear hx q0 q1 HF4 HK4 HA4
          go_wp2_with fail
          go_roundw
          case rel => exact ⟨k + 1, by omega, by go_num, HK5, HF5⟩
          case measure => simp [intOf]; omega
        · have hke : k = n := by omega
          subst hke
          go_wp2_with fail
          go_ret
          exact HE.out _ _ HK.out HN2.out HFi.out
theorem due_any {F : Nat → Prop} {X : Nat} {M : List It} (t : Int) (hM : M.length ≤ 1000) (w : World) (h : Good w F X M) : Calls Tryz.prog 51 #[.pointer (some ⟨X, 0, none⟩), .int .u64 t] w (DueC F X M t w) :=
  (due_all t hM w h).mono (fun e w' h => by
    obtain ⟨v, h1, h2, h3, h4, _⟩ := h
    exact ⟨v, h1, h2, h3, h4⟩)
end Go.Proofs.YthgbdaladngpdaaGreat.Whl
