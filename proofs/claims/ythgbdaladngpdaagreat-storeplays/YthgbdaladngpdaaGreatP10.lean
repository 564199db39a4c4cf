/- Rows of numbers in memory; the contract of the reference's Same, of two rows with the same numbers. The rows have at most 4096 numbers. The contract of Due: what is due, by times, of one time by ids; the rest stays. A wheel has at most 1000 items. A store in memory: its object of 264 cells, its row of records, its table, its list, its wheel; what stands and what turns. No condition. -/
import Derived.Test.YthgbdaladngpdaaGreatP09
import Derived.Deep.Upon
import Derived.Maps.AppendAt
import Derived.Deep.DeepMust
/- Rows of numbers in memory; the contract of the reference's Same, of two rows with the same numbers. The rows have at most 4096 numbers. -/
namespace Go.Proofs.YthgbdaladngpdaaGreat.Whl
open Go.ChangeShapes Go.WideShapes Go.ChangeAt Go.RowKit
set_option linter.unusedVariables false
set_option maxRecDepth 100000
set_option linter.unusedSimpArgs false

def iv (xs : List Int) : List Value := xs.map (Value.int .i64)
theorem iv_len (xs : List Int) : (iv xs).length = xs.length := by unfold iv; simp
/- A row that is read. -/
def Rw (w : World) (v : Value) (xs : List Int) : Prop :=
  ∃ a c, v = .slice a xs.length c ∧ (0 < xs.length → ∃ g o, a = some ⟨g, o, none⟩ ∧ ∀ i x, xs[i]? = some x → w.cell? ⟨g, o + i, none⟩ = some (.int .i64 x))
/- A row of one's own. -/
def OwnI (w : World) (B : Nat) (v : Value) (xs : List Int) : Prop := w.ownsRow B 3 1 v xs.length (iv xs)
section
variable {w w' : World} {B : Nat} {v : Value} {xs : List Int}
theorem cell_lt {b o : Nat} {v : Value} (h : w.cell? ⟨b, o, none⟩ = some v) : b < w.heap.size := by
  unfold World.cell? at h
  cases hb : w.heap[b]? with
  | none => simp [hb] at h
  | some x => exact (Array.getElem?_eq_some_iff.1 hb).1
theorem rw_kept (h : Rw w v xs) (k : Kept w w') : Rw w' v xs := by
  obtain ⟨a, c, rfl, h⟩ := h
  refine ⟨a, c, rfl, fun hp => ?_⟩
  obtain ⟨g, o, rfl, hc⟩ := h hp
  exact ⟨g, o, rfl, fun i x hx => (kept_cell k (cell_lt (hc i x hx))).trans (hc i x hx)⟩
theorem own_kept (h : OwnI w B v xs) (k : ∀ g cur, v.ownBlock = some g → At w g cur 3 → w'.heap[g]? = w.heap[g]?) : OwnI w' B v xs := by
  refine ⟨h.1, ?_⟩
  rcases h.2 with hn | ⟨g, cap, cur, rfl, hb, hg, rest⟩
  · exact .inl hn
  · exact .inr ⟨g, cap, cur, rfl, hb, (k g cur rfl hg).trans hg, rest⟩
theorem own_stays (h : OwnI w B v xs) (k : Kept w w') : OwnI w' B v xs := own_kept h (fun g cur _ ha => kept_block k (at_lt ha))
theorem own_low {B' : Nat} (h : OwnI w B v xs) (hb : B' ≤ B) : OwnI w B' v xs := by
  refine ⟨h.1, ?_⟩
  rcases h.2 with hn | ⟨g, cap, cur, rfl, hg, rest⟩
  · exact .inl hn
  · exact .inr ⟨g, cap, cur, rfl, Nat.le_trans hb hg, rest⟩
theorem rw_own (h : OwnI w B v xs) : Rw w v xs := by
  rcases h.2 with ⟨rfl, hn⟩ | ⟨g, cap, cur, rfl, hb, hg, rest⟩
  · exact ⟨none, 0, by rw [hn], fun hp => absurd hp (by omega)⟩
  · refine ⟨_, cap, rfl, fun _ => ⟨g, 0, rfl, fun i x hx => ?_⟩⟩
    have := World.ownsRow.cells h (g := g) rfl i (.int .i64 x) (by unfold iv; simp [hx])
    rw [← this]
    rcases Nat.eq_zero_or_pos i with h0 | h0
    · subst h0; simp [Addr.add]
    · rw [show (⟨g, 0, none⟩ : Addr).add i = ⟨g, 0 + i, none⟩ by simp [Addr.add]; omega]
theorem own_nil (w : World) (B : Nat) : OwnI w B (.slice none 0 0) [] := World.ownsRow_nil w B 3 1
/- A row as it is built. -/
theorem own_built (w : World) (B : Nat) (hB : B ≤ w.heap.size) (xs : List Int) (hm : xs.length ≤ 4096) : OwnI (w.alloc (.cells (iv xs).toArray 3)) B (.slice (some ⟨w.heap.size, 0, none⟩) xs.length xs.length) xs := by
  refine ⟨by rw [iv_len, Nat.mul_one], .inr ⟨w.heap.size, xs.length, _, rfl, hB, at_new w _ 3, Nat.le_refl _, by unfold maxLen; omega, by simp [iv_len], ?_⟩⟩
  have h1 : xs.length * 1 = (iv xs).length := by rw [iv_len, Nat.mul_one]
  rw [h1]
  simp
end
theorem info3 : (Tryz.prog.info? 3).map (fun i => (i.zero, i.size, i.bytes)) = some (some (.int .i64 0), 1, 8) := by kernel_rfl
theorem take_on {xs : List Int} {k : Nat} (h : k < xs.length) : xs.take (k + 1) = xs.take k ++ [xs[k]] := List.take_succ_eq_append_getElem h
theorem cell_one (w : World) (x : Value) : ∀ (j : Nat) (u : Value), ([x] : List Value)[j]? = some u → (w.alloc (.cells #[x] 3)).cell? ((⟨w.heap.size, 0, none⟩ : Addr).add j) = some u := by
  intro j u hu
  match j, hu with
  | 0, hu =>
    simp at hu
    subst hu
    exact at_cell (at_new w #[x] 3) 0
  | j + 1, hu => simp at hu
/- What a call answers that makes a row. -/
def RowC (xs : List Int) (w : World) (e : Ending) (w' : World) : Prop := ∃ v, e = .returned v ∧ OwnI w' w.heap.size v xs ∧ Kept w w'
theorem own_len {w : World} {B m : Nat} {v : Value} {xs : List Int} (h : w.ownsRow B 3 1 v m (iv xs)) (e : xs.length = m) : OwnI w B v xs := by subst e; exact h
theorem iv_snoc (xs : List Int) (x : Int) : iv (xs ++ [x]) = iv xs ++ [.int .i64 x] := by unfold iv; simp
theorem kept_grown {W w w' : World} {row : Option Nat} (h : Kept W w) (g : w.grownBy w' row) (hr : ∀ k, row = some k → W.heap.size ≤ k) : Kept W w' :=
  kept_of (g.os.trans (kept_os h)) (g.output.trans (kept_output h)) (Nat.le_trans h.2 g.size) (fun i hi => (g.block i (Nat.lt_of_lt_of_le hi h.2) (fun e => by have := hr i e.symm; omega)).trans (kept_block h hi))
def lenV : Value → Nat
  | .slice _ n _ => n
  | _ => 0
theorem own_lenV {w : World} {B : Nat} {v : Value} {xs : List Int} (h : OwnI w B v xs) : lenV v = xs.length := by
  obtain ⟨a, c, rfl, _⟩ := rw_own h
  rfl
theorem own_tn {F : Nat → Prop} {w w' : World} {B : Nat} {v : Value} {xs : List Int} (h : OwnI w B v xs) (t : Tn F w w') (hF : ∀ k, F k → k < B) : OwnI w' B v xs := by
  refine ⟨h.1, ?_⟩
  rcases h.2 with hn | ⟨g, cap, cur, rfl, hb, hg, rest⟩
  · exact .inl hn
  · exact .inr ⟨g, cap, cur, rfl, hb, (t.2.2.2 g (at_lt hg) (fun hf => by have := hF g hf; omega)).trans hg, rest⟩
end Go.Proofs.YthgbdaladngpdaaGreat.Whl

/- The contract of Due: what is due, by times, of one time by ids; the rest stays. A wheel has at most 1000 items. -/
namespace Go.Proofs.YthgbdaladngpdaaGreat.Whl
open Go.ChangeShapes Go.WideShapes Go.ChangeAt Go.RowKit
set_option linter.unusedVariables false
set_option maxRecDepth 100000
set_option linter.unusedSimpArgs false

def ids (l : List It) : List Int := l.map (·.2)
theorem due_nil (t : Int) (w : World) : Calls Tryz.prog 51 #[.pointer none, .int .u64 t] w fun e w' => e = .returned (.slice none 0 0) ∧ w' = w := by
  go_enter Tryz.func51, Tryz.ntmps51
  go_wp2_with fail
  go_ret
  exact ⟨rfl, rfl⟩
/- While it goes on: what was taken out, and what is left. -/
structure DS (F : Nat → Prop) (X : Nat) (M : List It) (t : Int) (w wr : World) (v : Value) (k : Nat) (T : List It) (m : Nat) (V : Nat → Value) (L : Nat → List It) (g : Int → Option (Nat × Nat)) : Prop where
  gl : GL wr F X m V L g
  own : wr.ownsRow w.heap.size 123 2 v T.length (iw T)
  perm : M.Perm (T ++ flat L)
  told : ∀ x ∈ T, x.1 ≤ t
  left : ∀ b, b < k → ∀ x ∈ L b, t < x.1
  tn : Tn F w wr
section
variable {F : Nat → Prop} {X : Nat} {M : List It} {t : Int} {w wr u : World} {v : Value} {k : Nat} {T : List It} {m : Nat} {V : Nat → Value} {L : Nat → List It} {g : Int → Option (Nat × Nat)}
theorem own_row {B n : Nat} (h : w.ownsRow B 123 2 v n (iw T)) (e : T.length = n) : Row w v T := by
  subst e
  refine ⟨h.1, ?_⟩
  rcases h.2 with hn | ⟨q, cap, cur, rfl, hg, rest⟩
  · exact .inl hn
  · exact .inr ⟨q, cap, cur, rfl, Nat.zero_le _, rest⟩
theorem ds_lt (h : DS F X M t w wr v k T m V L g) : T.length + (flat L).length = M.length := by rw [h.perm.length_eq]; simp
theorem ds_len (h : DS F X M t w wr v k T m V L g) : lenV v = T.length := by
  obtain ⟨a, cap, e⟩ := row_is (own_row h.own rfl)
  rw [e]; rfl
theorem ds_next (h : DS F X M t w wr v k T m V L g) (hk : ∀ x ∈ L k, t < x.1) : DS F X M t w wr v (k + 1) T m V L g :=
  ⟨h.gl, h.own, h.perm, h.told, fun b hb x hx => by
    by_cases e : b = k
    · subst e; exact hk x hx
    · exact h.left b (by omega) x hx, h.tn⟩
theorem ds_over (h : DS F X M t w wr v k T m V L g) (hb : k < 64) {x : It} (hx : (L k)[0]? = some x) (ht : ¬ x.1 ≤ t) : ∀ y ∈ L k, t < y.1 := fun y hy => by
  obtain ⟨j, hj⟩ := List.getElem?_of_mem hy
  have := heap_min (h.gl.heap k hb) j (lt_of_some hj)
  rw [du_some hx, du_some hj] at this
  omega
/- One is taken out: the row that is told stands. -/
theorem own_tn59 {B n : Nat} {xs : List Value} (h : w.ownsRow B 123 2 v n xs) (tn : Tn F w u) (hF : ∀ j, F j → j < B) : u.ownsRow B 123 2 v n xs := by
  refine ⟨h.1, ?_⟩
  rcases h.2 with hn | ⟨q, cap, cur, rfl, hb, hg, rest⟩
  · exact .inl hn
  · exact .inr ⟨q, cap, cur, rfl, hb, (tn.2.2.2 q (at_lt hg) (fun hf => by have := hF q hf; omega)).trans hg, rest⟩
theorem gl_same {w' : World} (h : GL w F X m V L g) (hs : ∀ j, F j → w'.heap[j]? = w.heap[j]?) (hz : w.heap.size ≤ w'.heap.size) : GL w' F X m V L g := by
  have hm := h.mem
  obtain ⟨cs, h1, h2⟩ := hm.obj
  exact ⟨⟨⟨cs, (hs X hm.fX).trans h1, h2⟩, whr_block hm.map (hs m hm.fm), fun b hb => row_block (hm.row b hb) (fun q _ hq _ => hs q (hm.fV b q hb hq)), hm.apart, hm.fX, hm.fm, hm.fV, fun j hj => Nat.lt_of_lt_of_le (hm.low j hj) hz⟩, h.full, h.heap, h.wf⟩
end
theorem ds_take {F : Nat → Prop} {X : Nat} {M : List It} {t : Int} {w wr w2 w4 : World} {v v4 : Value} {k : Nat} {T : List It} {m : Nat} {V V2 : Nat → Value} {L : Nat → List It} {g g2 : Int → Option (Nat × Nat)} {x : It} {l2 : List It} {o : Obj}
    (h : DS F X M t w wr v k T m V L g) (hb : k < 64) (ht : x.1 ≤ t) (hF : ∀ j, F j → j < w.heap.size) (t2 : Tn F wr w2) (gl2 : GL w2 F X m V2 (upd L k l2) g2) (p2 : (L k).Perm (x :: l2))
    (hg : (w2.alloc o).grownBy w4 v.ownBlock) (ho : w4.ownsRow w.heap.size 123 2 v4 (T.length + 1) (iw T ++ [.int .u64 x.1, .int .i64 x.2])) : DS F X M t w w4 v4 k (T ++ [x]) m V2 (upd L k l2) g2 := by
  have hlo := World.ownsRow.lt h.own
  have hbk : ∀ j, j < (w2.alloc o).heap.size → j < w.heap.size → w4.heap[j]? = (w2.alloc o).heap[j]? := fun j h1 h2 => hg.block j h1 (fun e => by
    have := (hlo j e.symm).1
    omega)
  have hsz : w.heap.size ≤ w2.heap.size := Nat.le_trans h.tn.2.2.1 t2.2.2.1
  have k3 := kept_alloc (kept_refl w2) o
  have tn2 := tn_trans h.tn t2
  refine ⟨gl_same (gl_kept gl2 k3) (fun j hj => hbk j (by have := hF j hj; have := k3.2; omega) (hF j hj)) hg.size, ?_, ?_, ?_, ?_, ?_⟩
  · rw [show (T ++ [x]).length = T.length + 1 by simp, iw_app]
    exact ho
  · refine h.perm.trans ?_
    rw [List.append_assoc]
    exact (flat_out hb p2).append_left T
  · intro y hy
    rcases List.mem_append.1 hy with hy | hy
    · exact h.told y hy
    · simp at hy; rw [hy]; exact ht
  · intro b hb' y hy
    rw [upd_ne _ _ (by omega)] at hy
    exact h.left b hb' y hy
  · have tn3 := tn_trans tn2 (tn_kept k3)
    exact ⟨hg.os.trans tn3.1, hg.output.trans tn3.2.1, Nat.le_trans tn3.2.2.1 hg.size, fun j hj hn => (hbk j (Nat.lt_of_lt_of_le hj tn3.2.2.1) hj).trans (tn3.2.2.2 j hj hn)⟩
/- What Due answers and leaves. -/
def DueC (F : Nat → Prop) (X : Nat) (M : List It) (t : Int) (w : World) (e : Ending) (w' : World) : Prop :=
  ∃ v, e = .returned v ∧ OwnI w' w.heap.size v (ids (due M t)) ∧ Tn F w w' ∧ Good w' F X (aft M t)
def DueC2 (F : Nat → Prop) (X : Nat) (M : List It) (t : Int) (w : World) (e : Ending) (w' : World) : Prop :=
  ∃ v, e = .returned v ∧ OwnI w' w.heap.size v (ids (due M t)) ∧ Tn F w w' ∧ Good w' F X (aft M t) ∧ v ≠ .slice none 0 0
theorem srt_aft {M : List It} (h : Srt M) (t : Int) : Srt (aft M t) := srt_sub h List.filter_sublist
theorem srt_due {M : List It} (h : Srt M) (t : Int) : Srt (due M t) := srt_sub h List.filter_sublist
theorem make_ints (w : World) (n : Nat) (hn : n ≤ 4096) :
    (Instr.makeSlice 90 (.int .i64 (n : Int)) (.int .i64 (n : Int))).run Tryz.prog w = .ok (.slice (some ⟨w.heap.size, 0, none⟩) n n) (w.alloc (.cells (madeCells #[.int .i64 0] (n * 1)) 3)) := by
  obtain ⟨i0, hi, hz0, hz1, hz2⟩ := info_parts info3
  have := run_make (P := Tryz.prog) w 90 3 i0 _ Tryz.underlying90 hi hz0 .i64 .i64 (n : Int) (n : Int) (by omega) (by omega) (by rw [hz2]; omega) (by omega)
  rw [this, hz1]
  rfl
/- A row of numbers that is filled. -/
def Fill (w : World) (N n : Nat) (l : List It) (k : Nat) : Prop := ∃ cs, At w N cs 3 ∧ cs.size = n ∧ ∀ i x, i < k → l[i]? = some x → cs[i]? = some (.int .i64 x.2)
theorem fill_made (w : World) (n : Nat) (l : List It) : Fill (w.alloc (.cells (madeCells #[.int .i64 0] (n * 1)) 3)) w.heap.size n l 0 := ⟨_, at_new w _ 3, by unfold madeCells; simp, fun i x h => by omega⟩
theorem fill_kept {w w' : World} {N n k : Nat} {l : List It} (h : Fill w N n l k) (kk : Kept w w') : Fill w' N n l k := by
  obtain ⟨cs, h1, h2⟩ := h
  exact ⟨cs, at_kept h1 kk, h2⟩
theorem fill_next {w : World} {N n k : Nat} {l : List It} (h : Fill w N n l k) {x : It} (hx : l[k]? = some x) (hk : k < n) : Fill (w.setCell ⟨N, k, none⟩ (.int .i64 x.2)) N n l (k + 1) := by
  obtain ⟨cs, h1, h2, h3⟩ := h
  refine ⟨_, at_set h1 _ _, by simpa using h2, fun i y hi hy => ?_⟩
  rw [Array.getElem?_setIfInBounds]
  by_cases e : k = i
  · subst e
    rw [if_pos rfl, if_pos (by omega)]
    rw [hx] at hy
    injection hy with hy
    rw [hy]
  · rw [if_neg e]
    exact h3 i y (by omega) hy
theorem fill_cell {w : World} {N n k : Nat} {l : List It} (h : Fill w N n l k) (hk : k < n) : ∃ u, w.cell? ⟨N, k, none⟩ = some u ∧ w.frozen? ⟨N, k, none⟩ = false := by
  obtain ⟨cs, h1, h2, h3⟩ := h
  exact ⟨cs[k], (at_cell h1 _).trans (Array.getElem?_eq_getElem (by omega)), at_frozen h1 _⟩
theorem fill_own {w : World} {N n B : Nat} {l : List It} (h : Fill w N n l n) (hn : l.length = n) (hB : B ≤ N) (h4 : n ≤ 4096) : OwnI w B (.slice (some ⟨N, 0, none⟩) n n) (ids l) := by
  obtain ⟨cs, h1, h2, h3⟩ := h
  have hl : (ids l).length = n := by unfold ids; simpa using hn
  refine ⟨by rw [iv_len, Nat.mul_one], .inr ⟨N, n, cs, by rw [hl], hB, h1, by omega, by unfold maxLen; omega, by omega, ?_⟩⟩
  rw [hl, Nat.mul_one]
  apply List.ext_getElem?
  intro i
  rw [List.getElem?_take]
  split
  · rename_i hi
    have hx : l[i]? = some l[i] := List.getElem?_eq_getElem (by omega)
    have := h3 i _ hi hx
    unfold iv ids
    simp only [List.map_map, List.getElem?_map, hx, Option.map_some, Function.comp]
    simpa using this
  · rename_i hi
    rw [List.getElem?_eq_none (by rw [iv_len, hl]; omega)]
set_option maxHeartbeats 6400000 in
theorem due_all {F : Nat → Prop} {X : Nat} {M : List It} (t : Int) (hM : M.length ≤ 1000) (w : World) (h : Good w F X M) : Calls Tryz.prog 51 #[.pointer (some ⟨X, 0, none⟩), .int .u64 t] w (DueC2 F X M t w) := by
  have HF : Hid (∀ j, F j → j < w.heap.size) := hid (good_low h)
  obtain ⟨m, V, L, g, h1, h2, h3⟩ := h
  have HS := hid h3
  have HD0 : Hid (∃ T m V L g, DS F X M t w w (.slice none 0 0) 0 T m V L g) := hid ⟨[], m, V, L, g, h1, World.ownsRow_nil w _ 123 2, by simpa using h2, fun x hx => (by cases hx), fun b hb => (by omega), tn_refl⟩
  have HTk : Hid (∀ wr v k T m V L g x, DS F X M t w wr v k T m V L g → k < 64 → (L k)[0]? = some x → Calls Tryz.prog 86 #[.pointer (some ⟨X, 0, none⟩), .agg #[.int .i64 (k : Int), .int .i64 ((0 : Nat) : Int)]] wr (OutC F X m L k x wr)) := hid (fun wr v k T m V L g x hd hk hx => take_any k 0 x (by have := ds_lt hd; omega) hk hx wr hd.gl)
  obtain ⟨i0, hi, hz0, hz1, hz2⟩ := info_parts (P := Tryz.prog) (e := 123) info59
  have HI := hid (And.intro hi (And.intro hz0 (And.intro hz1 hz2)))
  clear h1 h2 h3 hi hz0 hz1 hz2
  go_enter Tryz.func51, Tryz.ntmps51
  go_wp2_with fail
  go_loopw [5, 6, 12] (fun v b j wr => ∃ k : Nat, k ≤ 64 ∧ j = .int .i64 (k : Int) ∧ Hid (∃ T m V L g, DS F X M t w wr v k T m V L g)) (fun _ _ j _ => 64 - (intOf j).toNat)
  case atStart => exact ⟨0, by omega, rfl, HD0⟩
  case round =>
    clear HD0
    obtain ⟨k, hk, rfl, HD⟩ := hrel
    by_cases hlt : k < 64
    · have hkd : decide ((k : Int) < 64) = true := by simp; omega
      go_wp2_with fail
      try rw [hkd]
      go_loopw [5] (fun v wr => True ∧ Hid (∃ T m V L g, DS F X M t w wr v k T m V L g)) (fun v _ => M.length - lenV v)
      case atStart => exact ⟨trivial, HD⟩
      case round =>
        clear HD
        obtain ⟨T, m, V, L, g, hd⟩ := hrel.2.out
        obtain ⟨va, cap, hv⟩ := row_is (hd.gl.mem.row k hlt)
        have c0 := (wm_cell hd.gl.mem hlt).1
        rw [hv] at c0
        have hTl := ds_lt hd
        have hl : (L k).length ≤ 1000 := by have := flat_len L hlt; omega
        have hk2 : ¬ (64 : Int) ≤ (k : Int) := by omega
        rcases Nat.eq_zero_or_pos (L k).length with hz | hz
        · rw [hz] at c0
          have HN : Hid (∃ T m V L g, DS F X M t w wr u5 (k + 1) T m V L g) := hid ⟨T, m, V, L, g, ds_next hd (fun x hx => by rw [List.eq_nil_of_length_eq_zero hz] at hx; cases hx)⟩
          clear hd hv hl hz hTl hrel
          go_wp2_with fail
          go_roundw
          case rel => exact ⟨k + 1, by omega, by go_num, HN⟩
          case measure => simp [intOf]; omega
        · have hr := hd.gl.mem.row k hlt
          obtain ⟨q, cap2, hv2, _⟩ := row_some hr hz
          rw [hv2] at hv
          injection hv with e1 e2 e3
          clear e2
          subst e1 e3
          obtain ⟨x, hx⟩ : ∃ x, (L k)[0]? = some x := ⟨(L k)[0], List.getElem?_eq_getElem hz⟩
          rw [hv2] at hr
          have r0 := (row_cells hr hx).1
          rw [Nat.zero_mul] at r0
          have hn2 : (0 : Int) < ((L k).length : Int) := by omega
          have hn3 : ¬ ((L k).length : Int) ≤ 0 := by omega
          by_cases ht : x.1 ≤ t
          · have htk := HTk.out wr u5 k T m V L g x hd hlt hx
            have HDd := hid hd
            have HM := hid (ds_len hd)
            have HTl := hid hTl
            have hTs : T.length < M.length := by have := flat_len L hlt; omega
            clear hd hx hr hv2 hTl hrel
            generalize (L k).length = n at *
            go_wp2_with fail
            refine htk.mono ?_
            rintro e w2 ⟨rfl, t2, V2, l2, g2, gl2, p2⟩
            have HO2 := hid (World.ownsRow.alloc (own_tn59 HDd.out.own t2 HF.out) (.cells #[.int .u64 x.1, .int .i64 x.2] 123))
            have HNew := hid (fun v4 w4 => ds_take (v4 := v4) (w4 := w4) (o := .cells #[.int .u64 x.1, .int .i64 x.2] 123) HDd.out hlt ht HF.out t2 gl2 p2)
            have HB : Hid (w.heap.size ≤ w2.heap.size) := hid (Nat.le_trans HDd.out.tn.2.2.1 t2.2.2.1)
            have HA := hid (at_new w2 #[.int .u64 x.1, .int .i64 x.2] 123)
            clear htk t2 gl2 p2 c0 r0 hn2 hn3
            go_wp2_with (at_builtin; go_must (refine wpList_append_own _ rfl (.tmp 36) (.tmp 41) 117 rfl w.heap.size 123 i0 (.agg #[.int .u64 0, .int .i64 0]) 2 16 Tryz.underlying117 HI.out.1 HI.out.2.1 HI.out.2.2.1 HI.out.2.2.2 rfl (by decide) _ _ _ rfl HO2.out ⟨w2.heap.size, 0, none⟩ 1 1 [.int .u64 x.1, .int .i64 x.2] rfl rfl (item_cells HA.out) (by intro u hu; simp at hu; rcases hu with rfl | rfl <;> rfl) (by unfold maxLen; omega) (by omega) (by have := HB.out; simp; omega) ?_; intro v3 w3 hown3 hgrow3 hnil3))
            have HDn := hid (HNew.out v3 w3 hgrow3 hown3)
            clear hown3 hgrow3 hnil3 HNew HO2 HA
            go_roundw
            case rel => exact ⟨trivial, hid ⟨_, _, _, _, _, HDn.out⟩⟩
            case measure =>
              rw [HM.out, ds_len HDn.out]
              simp
              omega
          · have hd2 : decide (x.1 ≤ t) = false := by simpa using ht
            have HN : Hid (∃ T m V L g, DS F X M t w wr u5 (k + 1) T m V L g) := hid ⟨T, m, V, L, g, ds_next hd (ds_over hd hlt hx ht)⟩
            clear hd hx hr hv2 hTl ht hrel
            generalize (L k).length = n at *
            go_wp2_with fail
            go_roundw
            case rel => exact ⟨k + 1, by omega, by go_num, HN⟩
            case measure => simp [intOf]; omega
    · have hke : k = 64 := by omega
      subst hke
      clear hlt hk
      obtain ⟨T, m, V, L, g, hd⟩ := HD.out
      obtain ⟨hT, hR⟩ := due_unique (T := T) (R := flat L) HS.out hd.perm hd.told (fun x hx => by
        obtain ⟨b, hb, hx⟩ := flat_mem.1 hx
        exact hd.left b hb x hx)
      have hTl := ds_lt hd
      have hsort := sort_any T (by omega) u5 wr (own_row hd.own rfl)
      have hse : srtd T = due M t := sort_unique ((srtd_perm T).trans hT) (srtd_pair T) (srt_due HS.out t)
      have hdl : (due M t).length ≤ 1000 := by rw [← hT.length_eq]; omega
      have HSE := hid hse
      have HDd := hid hd
      have HR := hid hR
      clear hd hT hR hTl hse HTk HI HD
      go_wp2_with fail
      refine hsort.mono ?_
      rintro e w2 ⟨rfl, ⟨o1, o2, o3, o4⟩, rd⟩
      rw [HSE.out] at rd
      have hlo := World.ownsRow.lt HDd.out.own
      have HG2 := hid (gl_same HDd.out.gl (fun j hj => o4 j (Nat.lt_of_lt_of_le (HF.out j hj) HDd.out.tn.2.2.1) (fun e => by have := (hlo j e).1; have := HF.out j hj; omega)) o3)
      have HT2 : Hid (Tn F w w2) := hid ⟨o1.trans HDd.out.tn.1, o2.trans HDd.out.tn.2.1, Nat.le_trans HDd.out.tn.2.2.1 o3, fun j hj hn => (o4 j (Nat.lt_of_lt_of_le hj HDd.out.tn.2.2.1) (fun e => by have := (hlo j e).1; omega)).trans (HDd.out.tn.2.2.2 j hj hn)⟩
      have HE : Hid (∀ (u : World) (N : Nat), Kept w2 u → w2.heap.size ≤ N → Fill u N (due M t).length (due M t) (due M t).length → DueC2 F X M t w (.returned (.slice (some ⟨N, 0, none⟩) (due M t).length (due M t).length)) u) := hid (fun u N ku hN hf => ⟨_, rfl, fill_own hf rfl (Nat.le_trans HT2.out.2.2.1 hN) (by omega), tn_trans HT2.out (tn_kept ku), ⟨m, V, L, g, gl_kept HG2.out ku, HR.out.symm, srt_aft HS.out t⟩, by simp⟩)
      obtain ⟨a, c, hu5, hrd⟩ := rd
      have HRd : Hid (∀ k x, (due M t)[k]? = some x → ∃ q, a = some ⟨q, 0, none⟩ ∧ w2.cell? ⟨q, k * 2, none⟩ = some (.int .u64 x.1) ∧ w2.cell? ⟨q, k * 2 + 1, none⟩ = some (.int .i64 x.2)) := hid (fun k x hx => by
        obtain ⟨q, e, hq⟩ := hrd (Nat.lt_of_le_of_lt (Nat.zero_le _) (lt_of_some hx))
        exact ⟨q, e, hq k x hx⟩)
      have hmk := make_ints w2 (due M t).length (by omega)
      have HFi := hid (fill_made w2 (due M t).length (due M t))
      have HK3 := hid (kept_alloc (kept_refl w2) (.cells (madeCells #[.int .i64 0] ((due M t).length * 1)) 3))
      have HN : Hid (w2.heap.size ≤ w2.heap.size) := hid (Nat.le_refl _)
      have HX : Hid (∀ k, k < (due M t).length → ∃ x, (due M t)[k]? = some x) := hid (fun k hk => ⟨(due M t)[k], List.getElem?_eq_getElem hk⟩)
      clear hsort o1 o2 o3 o4 hlo hrd HG2 HT2 HR HSE HDd HS HF
      subst hu5
      generalize hnn : (due M t).length = n at *
      generalize hw3 : w2.alloc (.cells (madeCells #[.int .i64 0] (n * 1)) 3) = w3 at *
      clear hw3
      generalize hN : w2.heap.size = N at HFi HN hmk
      have HN2 : Hid (w2.heap.size ≤ N) := hid (by omega)
      clear hN HN
      go_wp2_with fail
      go_loopw [8, 9, 51] (fun i p j wr => ∃ k : Nat, k ≤ n ∧ j = .int .i64 (k : Int) ∧ Hid (Kept w2 wr) ∧ Hid (Fill wr N n (due M t) k)) (fun _ _ j _ => n - (intOf j).toNat)
      case atStart => exact ⟨0, Nat.zero_le _, rfl, HK3, HFi⟩
      case round =>
        clear HK3 HFi
        obtain ⟨k, hk, rfl, HK, HFi⟩ := hrel
        by_cases hlt : k < n
        · obtain ⟨x, hx⟩ := HX.out k hlt
          obtain ⟨q, rfl, q0, q1⟩ := HRd.out k x hx
          have c0 := (kept_cell HK.out (cell_lt q0)).trans q0
          have c1 := (kept_cell HK.out (cell_lt q1)).trans q1
          have HK4 := hid (kept_alloc HK.out (.cells #[.int .u64 x.1, .int .i64 x.2] 123))
          have HF4 := hid (fill_kept HFi.out (kept_alloc (kept_refl _) (.cells #[.int .u64 x.1, .int .i64 x.2] 123)))
          have HA4 := hid (at_new wr #[.int .u64 x.1, .int .i64 x.2] 123)
          obtain ⟨w4, hw4⟩ : ∃ w4, wr.alloc (.cells #[.int .u64 x.1, .int .i64 x.2] 123) = w4 := ⟨_, rfl⟩
          obtain ⟨P, hP⟩ : ∃ P, wr.heap.size = P := ⟨_, rfl⟩
          rw [hw4] at HK4 HF4 HA4
          rw [hP] at HA4
          obtain ⟨u, n0, nf⟩ := fill_cell HF4.out hlt
          obtain ⟨a0, a1, af⟩ := at_cells2 HA4.out
          obtain ⟨w5, hw5⟩ : ∃ w5, w4.setCell ⟨N, k, none⟩ (.int .i64 x.2) = w5 := ⟨_, rfl⟩
          have HF5 := hid (fill_next HF4.out hx hlt)
          have HK5 := hid (kept_set HK4.out HN2.out k (.int .i64 x.2))
          rw [hw5] at HF5 HK5
          clear hx q0 q1 HF4 HK4 HA4
          go_wp2_with fail
          go_roundw
          case rel => exact ⟨k + 1, by omega, by go_num, HK5, HF5⟩
          case measure => simp [intOf]; omega
        · have hke : k = n := by omega
          subst hke
          go_wp2_with fail
          go_ret
          exact HE.out _ _ HK.out HN2.out HFi.out
theorem due_any {F : Nat → Prop} {X : Nat} {M : List It} (t : Int) (hM : M.length ≤ 1000) (w : World) (h : Good w F X M) : Calls Tryz.prog 51 #[.pointer (some ⟨X, 0, none⟩), .int .u64 t] w (DueC F X M t w) :=
  (due_all t hM w h).mono (fun e w' h => by
    obtain ⟨v, h1, h2, h3, h4, _⟩ := h
    exact ⟨v, h1, h2, h3, h4⟩)
end Go.Proofs.YthgbdaladngpdaaGreat.Whl

/- A store in memory: its object of 264 cells, its row of records, its table, its list, its wheel; what stands and what turns. No condition. -/
namespace Go.Proofs.YthgbdaladngpdaaGreat
open Go.ChangeShapes Go.WideShapes Go.ChangeAt Go.RowKit
open Go.Proofs.YthgbdaladngpdaaGreat.Whl (Tn tn_kept tn_refl tn_trans tn_set tn_alloc at_tn kept_tn It)
set_option linter.unusedVariables false
set_option linter.unusedSimpArgs false
set_option maxRecDepth 100000

theorem tn_mono {F G : Nat → Prop} {w w' : World} (h : Tn G w w') (hG : ∀ k, G k → F k) : Tn F w w' := ⟨h.1, h.2.1, h.2.2.1, fun k hk hn => h.2.2.2 k hk (fun g => hn (hG k g))⟩
theorem tn_turn {F : Nat → Prop} {w w' : World} {c : Nat} (h : Turn c w w') (hc : F c) : Tn F w w' := ⟨h.1, h.2.1, h.2.2.1, fun k hk hn => h.2.2.2 k hk (fun e => hn (e ▸ hc))⟩
theorem tn_turns {F : Nat → Prop} {w w' : World} {X R : Nat} (h : Slo.Turns X R w w') (hX : F X) (hR : F R) : Tn F w w' := ⟨h.1, h.2.1, h.2.2.1, fun k hk hn => h.2.2.2 k hk (fun e => hn (e ▸ hX)) (fun e => hn (e ▸ hR))⟩
theorem tn_drew {F : Nat → Prop} {u w : World} (h : Tn F u w) : Tn F u w.drew := h
theorem tn_drewN {F : Nat → Prop} {u w : World} (h : Tn F u w) (n : Nat) : Tn F u (w.drewN n) := h
/- A row of records. -/
def set8o (w : World) (P o : Nat) (a0 a1 a2 a3 a4 a5 a6 a7 : Value) : World := (((((((w.setCell ⟨P, o, none⟩ a0).setCell ⟨P, o + 1, none⟩ a1).setCell ⟨P, o + 2, none⟩ a2).setCell ⟨P, o + 3, none⟩ a3).setCell ⟨P, o + 4, none⟩ a4).setCell ⟨P, o + 5, none⟩ a5).setCell ⟨P, o + 6, none⟩ a6).setCell ⟨P, o + 7, none⟩ a7
def Cs8 (cs : Array Value) (o : Nat) (r : R) : Prop := cs[o]? = some (.string r.key) ∧ cs[o + 1]? = some (.int .u64 r.s.p) ∧ cs[o + 2]? = some (.int .u32 r.s.l) ∧ cs[o + 3]? = some (.int .u8 r.s.n) ∧ cs[o + 4]? = some (.int .u8 r.kind) ∧ cs[o + 5]? = some (.int .u32 r.flags) ∧ cs[o + 6]? = some (.int .u64 r.exp) ∧ cs[o + 7]? = some (.string r.body)
def RowR (w : World) (P n : Nat) (pl : Nat → R) : Prop := ∃ cs, At w P cs 42 ∧ cs.size = n * 8 ∧ ∀ i, i < n → Cs8 cs (i * 8) (pl i)
theorem set_get (cs : Array Value) {i j : Nat} (v : Value) (h : i ≠ j) : (cs.setIfInBounds i v)[j]? = cs[j]? := by rw [Array.getElem?_setIfInBounds, if_neg h]
theorem set_got (cs : Array Value) {i : Nat} (v : Value) (h : i < cs.size) : (cs.setIfInBounds i v)[i]? = some v := by rw [Array.getElem?_setIfInBounds, if_pos rfl, if_pos h]
theorem cs8_set {cs : Array Value} {o : Nat} {r : R} (h : Cs8 cs o r) {j : Nat} (v : Value) (hj : j < o ∨ o + 8 ≤ j) : Cs8 (cs.setIfInBounds j v) o r := by
  obtain ⟨h0, h1, h2, h3, h4, h5, h6, h7⟩ := h
  refine ⟨?_, ?_, ?_, ?_, ?_, ?_, ?_, ?_⟩ <;> (rw [set_get _ _ (by omega)]; assumption)
theorem cs8_sets {cs : Array Value} {o : Nat} {r : R} (h : Cs8 cs o r) {j : Nat} (a0 a1 a2 a3 a4 a5 a6 a7 : Value) (hj : j + 8 ≤ o ∨ o + 8 ≤ j) :
    Cs8 ((((((((cs.setIfInBounds j a0).setIfInBounds (j + 1) a1).setIfInBounds (j + 2) a2).setIfInBounds (j + 3) a3).setIfInBounds (j + 4) a4).setIfInBounds (j + 5) a5).setIfInBounds (j + 6) a6).setIfInBounds (j + 7) a7) o r :=
  cs8_set (cs8_set (cs8_set (cs8_set (cs8_set (cs8_set (cs8_set (cs8_set h _ (by omega)) _ (by omega)) _ (by omega)) _ (by omega)) _ (by omega)) _ (by omega)) _ (by omega)) _ (by omega)
theorem cs8_here (cs : Array Value) (j : Nat) (r : R) (h : j + 8 ≤ cs.size) :
    Cs8 ((((((((cs.setIfInBounds j (.string r.key)).setIfInBounds (j + 1) (.int .u64 r.s.p)).setIfInBounds (j + 2) (.int .u32 r.s.l)).setIfInBounds (j + 3) (.int .u8 r.s.n)).setIfInBounds (j + 4) (.int .u8 r.kind)).setIfInBounds (j + 5) (.int .u32 r.flags)).setIfInBounds (j + 6) (.int .u64 r.exp)).setIfInBounds (j + 7) (.string r.body)) j r := by
  refine ⟨?_, ?_, ?_, ?_, ?_, ?_, ?_, ?_⟩
  · rw [set_get _ _ (by omega), set_get _ _ (by omega), set_get _ _ (by omega), set_get _ _ (by omega), set_get _ _ (by omega), set_get _ _ (by omega), set_get _ _ (by omega), set_got _ _ (by omega)]
  · rw [set_get _ _ (by omega), set_get _ _ (by omega), set_get _ _ (by omega), set_get _ _ (by omega), set_get _ _ (by omega), set_get _ _ (by omega), set_got _ _ (by simp; omega)]
  · rw [set_get _ _ (by omega), set_get _ _ (by omega), set_get _ _ (by omega), set_get _ _ (by omega), set_get _ _ (by omega), set_got _ _ (by simp; omega)]
  · rw [set_get _ _ (by omega), set_get _ _ (by omega), set_get _ _ (by omega), set_get _ _ (by omega), set_got _ _ (by simp; omega)]
  · rw [set_get _ _ (by omega), set_get _ _ (by omega), set_get _ _ (by omega), set_got _ _ (by simp; omega)]
  · rw [set_get _ _ (by omega), set_get _ _ (by omega), set_got _ _ (by simp; omega)]
  · rw [set_get _ _ (by omega), set_got _ _ (by simp; omega)]
  · rw [set_got _ _ (by simp; omega)]
section
variable {w w' : World} {P n : Nat} {pl : Nat → R}
theorem rowR_block (h : RowR w P n pl) (e : w'.heap[P]? = w.heap[P]?) : RowR w' P n pl := by
  obtain ⟨cs, h, g⟩ := h
  exact ⟨cs, e.trans h, g⟩
theorem rowR_lt (h : RowR w P n pl) : P < w.heap.size := by obtain ⟨cs, h, _⟩ := h; exact at_lt h
def C8 (w : World) (P o : Nat) (r : R) : Prop := w.cell? ⟨P, o, none⟩ = some (.string r.key) ∧ w.cell? ⟨P, o + 1, none⟩ = some (.int .u64 r.s.p) ∧ w.cell? ⟨P, o + 2, none⟩ = some (.int .u32 r.s.l) ∧ w.cell? ⟨P, o + 3, none⟩ = some (.int .u8 r.s.n) ∧ w.cell? ⟨P, o + 4, none⟩ = some (.int .u8 r.kind) ∧ w.cell? ⟨P, o + 5, none⟩ = some (.int .u32 r.flags) ∧ w.cell? ⟨P, o + 6, none⟩ = some (.int .u64 r.exp) ∧ w.cell? ⟨P, o + 7, none⟩ = some (.string r.body)
theorem rowR_cells (h : RowR w P n pl) {i : Nat} (hi : i < n) : C8 w P (i * 8) (pl i) ∧ ∀ j, w.frozen? ⟨P, j, none⟩ = false := by
  obtain ⟨cs, h, _, g⟩ := h
  obtain ⟨g0, g1, g2, g3, g4, g5, g6, g7⟩ := g i hi
  exact ⟨⟨(at_cell h _).trans g0, (at_cell h _).trans g1, (at_cell h _).trans g2, (at_cell h _).trans g3, (at_cell h _).trans g4, (at_cell h _).trans g5, (at_cell h _).trans g6, (at_cell h _).trans g7⟩, at_frozen h⟩
theorem rowR_set (h : RowR w P n pl) {i : Nat} (hi : i < n) (r : R) : RowR (set8o w P (i * 8) (.string r.key) (.int .u64 r.s.p) (.int .u32 r.s.l) (.int .u8 r.s.n) (.int .u8 r.kind) (.int .u32 r.flags) (.int .u64 r.exp) (.string r.body)) P n (updR pl i r) := by
  obtain ⟨cs, h, hs, g⟩ := h
  refine ⟨_, at_set (at_set (at_set (at_set (at_set (at_set (at_set (at_set h _ _) _ _) _ _) _ _) _ _) _ _) _ _) _ _, by simpa using hs, fun j hj => ?_⟩
  by_cases e : j = i
  · subst e
    rw [updR_at]
    exact cs8_here cs _ r (by omega)
  · rw [updR_ne _ _ e]
    exact cs8_sets (g j hj) _ _ _ _ _ _ _ _ (by omega)
theorem set8o_heap (w : World) (P o : Nat) (a0 a1 a2 a3 a4 a5 a6 a7 : Value) {k : Nat} (hk : k ≠ P) : (set8o w P o a0 a1 a2 a3 a4 a5 a6 a7).heap[k]? = w.heap[k]? := by
  unfold set8o
  repeat rw [Below.heap_setCell _ _ _ _ (by show k ≠ P; exact hk)]
theorem set8o_size (w : World) (P o : Nat) (a0 a1 a2 a3 a4 a5 a6 a7 : Value) : (set8o w P o a0 a1 a2 a3 a4 a5 a6 a7).heap.size = w.heap.size := by
  unfold set8o
  simp [World.setCell]
theorem tn_set8o {F : Nat → Prop} {u : World} (h : Tn F u w) (hP : F P) (o : Nat) (a0 a1 a2 a3 a4 a5 a6 a7 : Value) : Tn F u (set8o w P o a0 a1 a2 a3 a4 a5 a6 a7) :=
  tn_set (tn_set (tn_set (tn_set (tn_set (tn_set (tn_set (tn_set h (.inl hP) _ _) (.inl hP) _ _) (.inl hP) _ _) (.inl hP) _ _) (.inl hP) _ _) (.inl hP) _ _) (.inl hP) _ _) (.inl hP) _ _
end
/- The object. -/
structure Ad where
  P : Nat
  Xt : Nat
  Rt : Nat
  m : Nat
  Xl : Nat
  Rl : Nat
  Xw : Nat
  Fw : Nat → Prop
  T : Slo.Tb
structure Ob (cs : Array Value) (P n Xt Xl Xw : Nat) (fl : Nat → Stp) (dg : Nat → Nat) (B K : Nat) (size : Nat) (ev : Nat) : Prop where
  sz : cs.size = 264
  c0 : cs[0]? = some (.slice (some ⟨P, 0, none⟩) n n)
  c1 : cs[1]? = some (.pointer (some ⟨Xt, 0, none⟩))
  c2 : cs[2]? = some (.pointer (some ⟨Xl, 0, none⟩))
  c3 : cs[3]? = some (.pointer (some ⟨Xw, 0, none⟩))
  fl : ∀ k, k < 64 → cs[4 + k * 3]? = some (.int .u64 (fl k).p) ∧ cs[4 + k * 3 + 1]? = some (.int .u32 (fl k).l) ∧ cs[4 + k * 3 + 2]? = some (.int .u8 (fl k).n)
  dg : ∀ k, k < 64 → cs[196 + k]? = some (.int .u64 (dg k : Int))
  mo : cs[260]? = some (.int .i64 (B : Int))
  si : cs[261]? = some (.int .i64 (size : Int))
  ke : cs[262]? = some (.int .u64 (K : Int))
  ev : cs[263]? = some (.int .i64 (ev : Int))
def updN (f : Nat → Nat) (a v : Nat) : Nat → Nat := fun i => if i = a then v else f i
def updS (f : Nat → Stp) (a : Nat) (v : Stp) : Nat → Stp := fun i => if i = a then v else f i
section
variable {cs : Array Value} {P n Xt Xl Xw : Nat} {fl : Nat → Stp} {dg : Nat → Nat} {B K size ev : Nat}
theorem ob_dg (h : Ob cs P n Xt Xl Xw fl dg B K size ev) {k : Nat} (hk : k < 64) (v : Nat) : Ob (cs.setIfInBounds (196 + k) (.int .u64 (v : Int))) P n Xt Xl Xw fl (updN dg k v) B K size ev := by
  have hs := h.sz
  refine ⟨by simpa using h.sz, ?_, ?_, ?_, ?_, fun j hj => ⟨?_, ?_, ?_⟩, fun j hj => ?_, ?_, ?_, ?_, ?_⟩
  · rw [set_get _ _ (by omega)]; exact h.c0
  · rw [set_get _ _ (by omega)]; exact h.c1
  · rw [set_get _ _ (by omega)]; exact h.c2
  · rw [set_get _ _ (by omega)]; exact h.c3
  · rw [set_get _ _ (by omega)]; exact (h.fl j hj).1
  · rw [set_get _ _ (by omega)]; exact (h.fl j hj).2.1
  · rw [set_get _ _ (by omega)]; exact (h.fl j hj).2.2
  · by_cases e : j = k
    · subst e; rw [set_got _ _ (by omega)]; simp [updN]
    · rw [set_get _ _ (by omega)]; simp only [updN, if_neg e]; exact h.dg j hj
  · rw [set_get _ _ (by omega)]; exact h.mo
  · rw [set_get _ _ (by omega)]; exact h.si
  · rw [set_get _ _ (by omega)]; exact h.ke
  · rw [set_get _ _ (by omega)]; exact h.ev
theorem ob_si (h : Ob cs P n Xt Xl Xw fl dg B K size ev) (v : Nat) : Ob (cs.setIfInBounds 261 (.int .i64 (v : Int))) P n Xt Xl Xw fl dg B K v ev := by
  have hs := h.sz
  refine ⟨by simpa using h.sz, ?_, ?_, ?_, ?_, fun j hj => ⟨?_, ?_, ?_⟩, fun j hj => ?_, ?_, ?_, ?_, ?_⟩
  · rw [set_get _ _ (by omega)]; exact h.c0
  · rw [set_get _ _ (by omega)]; exact h.c1
  · rw [set_get _ _ (by omega)]; exact h.c2
  · rw [set_get _ _ (by omega)]; exact h.c3
  · rw [set_get _ _ (by omega)]; exact (h.fl j hj).1
  · rw [set_get _ _ (by omega)]; exact (h.fl j hj).2.1
  · rw [set_get _ _ (by omega)]; exact (h.fl j hj).2.2
  · rw [set_get _ _ (by omega)]; exact h.dg j hj
  · rw [set_get _ _ (by omega)]; exact h.mo
  · rw [set_got _ _ (by omega)]
  · rw [set_get _ _ (by omega)]; exact h.ke
  · rw [set_get _ _ (by omega)]; exact h.ev
theorem ob_ev (h : Ob cs P n Xt Xl Xw fl dg B K size ev) (v : Nat) : Ob (cs.setIfInBounds 263 (.int .i64 (v : Int))) P n Xt Xl Xw fl dg B K size v := by
  have hs := h.sz
  refine ⟨by simpa using h.sz, ?_, ?_, ?_, ?_, fun j hj => ⟨?_, ?_, ?_⟩, fun j hj => ?_, ?_, ?_, ?_, ?_⟩
  · rw [set_get _ _ (by omega)]; exact h.c0
  · rw [set_get _ _ (by omega)]; exact h.c1
  · rw [set_get _ _ (by omega)]; exact h.c2
  · rw [set_get _ _ (by omega)]; exact h.c3
  · rw [set_get _ _ (by omega)]; exact (h.fl j hj).1
  · rw [set_get _ _ (by omega)]; exact (h.fl j hj).2.1
  · rw [set_get _ _ (by omega)]; exact (h.fl j hj).2.2
  · rw [set_get _ _ (by omega)]; exact h.dg j hj
  · rw [set_get _ _ (by omega)]; exact h.mo
  · rw [set_get _ _ (by omega)]; exact h.si
  · rw [set_get _ _ (by omega)]; exact h.ke
  · rw [set_got _ _ (by omega)]
theorem ob_fl (h : Ob cs P n Xt Xl Xw fl dg B K size ev) {k : Nat} (hk : k < 64) (v : Stp) : Ob (((cs.setIfInBounds (4 + k * 3) (.int .u64 v.p)).setIfInBounds (4 + k * 3 + 1) (.int .u32 v.l)).setIfInBounds (4 + k * 3 + 2) (.int .u8 v.n)) P n Xt Xl Xw (updS fl k v) dg B K size ev := by
  have hs := h.sz
  refine ⟨by simpa using h.sz, ?_, ?_, ?_, ?_, fun j hj => ?_, fun j hj => ?_, ?_, ?_, ?_, ?_⟩
  · rw [set_get _ _ (by omega), set_get _ _ (by omega), set_get _ _ (by omega)]; exact h.c0
  · rw [set_get _ _ (by omega), set_get _ _ (by omega), set_get _ _ (by omega)]; exact h.c1
  · rw [set_get _ _ (by omega), set_get _ _ (by omega), set_get _ _ (by omega)]; exact h.c2
  · rw [set_get _ _ (by omega), set_get _ _ (by omega), set_get _ _ (by omega)]; exact h.c3
  · by_cases e : j = k
    · subst e
      simp only [updS, if_true]
      refine ⟨?_, ?_, ?_⟩
      · rw [set_get _ _ (by omega), set_get _ _ (by omega), set_got _ _ (by omega)]
      · rw [set_get _ _ (by omega), set_got _ _ (by simp; omega)]
      · rw [set_got _ _ (by simp; omega)]
    · simp only [updS, if_neg e]
      refine ⟨?_, ?_, ?_⟩
      · rw [set_get _ _ (by omega), set_get _ _ (by omega), set_get _ _ (by omega)]; exact (h.fl j hj).1
      · rw [set_get _ _ (by omega), set_get _ _ (by omega), set_get _ _ (by omega)]; exact (h.fl j hj).2.1
      · rw [set_get _ _ (by omega), set_get _ _ (by omega), set_get _ _ (by omega)]; exact (h.fl j hj).2.2
  · rw [set_get _ _ (by omega), set_get _ _ (by omega), set_get _ _ (by omega)]; exact h.dg j hj
  · rw [set_get _ _ (by omega), set_get _ _ (by omega), set_get _ _ (by omega)]; exact h.mo
  · rw [set_get _ _ (by omega), set_get _ _ (by omega), set_get _ _ (by omega)]; exact h.si
  · rw [set_get _ _ (by omega), set_get _ _ (by omega), set_get _ _ (by omega)]; exact h.ke
  · rw [set_get _ _ (by omega), set_get _ _ (by omega), set_get _ _ (by omega)]; exact h.ev
end
structure Sm (w : World) (F : Nat → Prop) (X : Nat) (c : Cf) (pl : Nat → R) (l : List Nat) (f : ByteArray → Option Int) (M : List It) (fl : Nat → Stp) (dg : Nat → Nat) (size ev ct : Nat) (a : Ad) : Prop where
  obj : ∃ cs, At w X cs 76 ∧ Ob cs a.P c.n a.Xt a.Xl a.Xw fl dg c.B c.K size ev
  row : RowR w a.P c.n pl
  tab : Slo.Good w a.Xt a.Rt a.m c.n a.T
  mp : ∀ k, Slo.mp a.m a.T k = f k
  cnt : Slo.cnt a.T a.m = ct
  lst : Lru.Good w a.Xl a.Rl c.n l
  whl : Whl.Good w a.Fw a.Xw M
  fX : F X
  fP : F a.P
  fXt : F a.Xt
  fRt : F a.Rt
  fXl : F a.Xl
  fRl : F a.Rl
  fw : ∀ k, a.Fw k → F k
  nX : ¬ a.Fw X
  nP : ¬ a.Fw a.P
  nXt : ¬ a.Fw a.Xt
  nRt : ¬ a.Fw a.Rt
  nXl : ¬ a.Fw a.Xl
  nRl : ¬ a.Fw a.Rl
  low : ∀ k, F k → k < w.heap.size
theorem slo_block {w w' : World} {X R m most : Nat} {L : Slo.Tb} (g : Slo.Good w X R m most L) (e1 : w'.heap[X]? = w.heap[X]?) (e2 : w'.heap[R]? = w.heap[R]?) : Slo.Good w' X R m most L := ⟨⟨e1.trans g.tab.1, Slo.row_block g.tab.2 e2⟩, g.ok, g.some, g.fit, g.full, g.low, g.small⟩
theorem lru_block {w w' : World} {X R n : Nat} {l : List Nat} (g : Lru.Good w X R n l) (e1 : w'.heap[X]? = w.heap[X]?) (e2 : w'.heap[R]? = w.heap[R]?) : Lru.Good w' X R n l := by
  obtain ⟨h1, h2, A, B, ⟨h3, h4⟩, h5⟩ := g
  obtain ⟨cs, h6, h7⟩ := h4
  exact ⟨h1, h2, A, B, ⟨e1.trans h3, cs, e2.trans h6, h7⟩, h5⟩
theorem whl_block {w w' : World} {F : Nat → Prop} {X : Nat} {M : List It} (g : Whl.Good w F X M) (e : ∀ k, F k → w'.heap[k]? = w.heap[k]?) (hs : w.heap.size ≤ w'.heap.size) : Whl.Good w' F X M := by
  obtain ⟨m, V, L, g', h1, h2⟩ := g
  exact ⟨m, V, L, g', Whl.gl_same h1 e hs, h2⟩
section
variable {w w' : World} {F : Nat → Prop} {X : Nat} {c : Cf} {pl : Nat → R} {l : List Nat} {f : ByteArray → Option Int} {M : List It} {fl : Nat → Stp} {dg : Nat → Nat} {size ev ct : Nat} {a : Ad}
/- The blocks' kinds keep them apart. -/
structure Ats (w : World) (X : Nat) (a : Ad) : Prop where
  x : ∃ cs, At w X cs 76
  p : ∃ cs, At w a.P cs 42
  xt : ∃ cs, At w a.Xt cs 108
  rt : ∃ cs, At w a.Rt cs 105
  xl : ∃ cs, At w a.Xl cs 137
  rl : ∃ cs, At w a.Rl cs 135
theorem sm_ats (h : Sm w F X c pl l f M fl dg size ev ct a) : Ats w X a := by
  obtain ⟨cs, h1, _⟩ := h.obj
  obtain ⟨ds, h2, _⟩ := h.row
  obtain ⟨es, h4, _⟩ := h.tab.tab.2
  obtain ⟨_, _, A, B, ⟨h5, es2, h6, _⟩, _⟩ := h.lst
  exact ⟨⟨cs, h1⟩, ⟨ds, h2⟩, ⟨_, h.tab.tab.1⟩, ⟨es, h4⟩, ⟨_, h5⟩, ⟨es2, h6⟩⟩
theorem ne_of {T U Y Z : Nat} (h : ∃ cs, At w Y cs T) (k : ∃ cs, At w Z cs U) (hTU : T ≠ U) : Y ≠ Z := by
  obtain ⟨cs, h⟩ := h
  obtain ⟨ds, k⟩ := k
  exact at_ne h k hTU
theorem sm_same (h : Sm w F X c pl l f M fl dg size ev ct a) (e : ∀ k, F k → w'.heap[k]? = w.heap[k]?) (hs : w.heap.size ≤ w'.heap.size) : Sm w' F X c pl l f M fl dg size ev ct a := by
  obtain ⟨cs, h1, h2⟩ := h.obj
  exact ⟨⟨cs, (e X h.fX).trans h1, h2⟩, rowR_block h.row (e _ h.fP), slo_block h.tab (e _ h.fXt) (e _ h.fRt), h.mp, h.cnt, lru_block h.lst (e _ h.fXl) (e _ h.fRl), whl_block h.whl (fun k hk => e k (h.fw k hk)) hs, h.fX, h.fP, h.fXt, h.fRt, h.fXl, h.fRl, h.fw, h.nX, h.nP, h.nXt, h.nRt, h.nXl, h.nRl, fun k hk => Nat.lt_of_lt_of_le (h.low k hk) hs⟩
theorem sm_kept (h : Sm w F X c pl l f M fl dg size ev ct a) (k : Kept w w') : Sm w' F X c pl l f M fl dg size ev ct a := sm_same h (fun j hj => kept_block k (h.low j hj)) k.2
theorem sm_tn {G : Nat → Prop} (h : Sm w F X c pl l f M fl dg size ev ct a) (t : Tn G w w') (hG : ∀ k, F k → ¬ G k) : Sm w' F X c pl l f M fl dg size ev ct a := sm_same h (fun j hj => t.2.2.2 j (h.low j hj) (hG j hj)) t.2.2.1
/- The object stored in. -/
theorem sm_obj {fl' : Nat → Stp} {dg' : Nat → Nat} {size' ev' : Nat} (h : Sm w F X c pl l f M fl dg size ev ct a) (e : ∀ k, k ≠ X → w'.heap[k]? = w.heap[k]?) (hs : w.heap.size ≤ w'.heap.size) (ho : ∃ cs, At w' X cs 76 ∧ Ob cs a.P c.n a.Xt a.Xl a.Xw fl' dg' c.B c.K size' ev') : Sm w' F X c pl l f M fl' dg' size' ev' ct a := by
  have t := sm_ats h
  exact ⟨ho, rowR_block h.row (e _ (ne_of t.p t.x (by decide))), slo_block h.tab (e _ (ne_of t.xt t.x (by decide))) (e _ (ne_of t.rt t.x (by decide))), h.mp, h.cnt, lru_block h.lst (e _ (ne_of t.xl t.x (by decide))) (e _ (ne_of t.rl t.x (by decide))), whl_block h.whl (fun k hk => e k (fun q => h.nX (q ▸ hk))) hs, h.fX, h.fP, h.fXt, h.fRt, h.fXl, h.fRl, h.fw, h.nX, h.nP, h.nXt, h.nRt, h.nXl, h.nRl, fun k hk => Nat.lt_of_lt_of_le (h.low k hk) hs⟩
theorem sm_dg (h : Sm w F X c pl l f M fl dg size ev ct a) {k : Nat} (hk : k < 64) (v : Nat) : Sm (w.setCell ⟨X, 196 + k, none⟩ (.int .u64 (v : Int))) F X c pl l f M fl (updN dg k v) size ev ct a := by
  obtain ⟨cs, h1, h2⟩ := h.obj
  exact sm_obj h (fun j hj => Below.heap_setCell _ _ _ _ hj) (by simp [World.setCell]) ⟨_, at_set h1 _ _, ob_dg h2 hk v⟩
theorem sm_si (h : Sm w F X c pl l f M fl dg size ev ct a) (v : Nat) : Sm (w.setCell ⟨X, 261, none⟩ (.int .i64 (v : Int))) F X c pl l f M fl dg v ev ct a := by
  obtain ⟨cs, h1, h2⟩ := h.obj
  exact sm_obj h (fun j hj => Below.heap_setCell _ _ _ _ hj) (by simp [World.setCell]) ⟨_, at_set h1 _ _, ob_si h2 v⟩
theorem sm_ev (h : Sm w F X c pl l f M fl dg size ev ct a) (v : Nat) : Sm (w.setCell ⟨X, 263, none⟩ (.int .i64 (v : Int))) F X c pl l f M fl dg size v ct a := by
  obtain ⟨cs, h1, h2⟩ := h.obj
  exact sm_obj h (fun j hj => Below.heap_setCell _ _ _ _ hj) (by simp [World.setCell]) ⟨_, at_set h1 _ _, ob_ev h2 v⟩
theorem sm_fl (h : Sm w F X c pl l f M fl dg size ev ct a) {k : Nat} (hk : k < 64) (v : Stp) : Sm (((w.setCell ⟨X, 4 + k * 3, none⟩ (.int .u64 v.p)).setCell ⟨X, 4 + k * 3 + 1, none⟩ (.int .u32 v.l)).setCell ⟨X, 4 + k * 3 + 2, none⟩ (.int .u8 v.n)) F X c pl l f M (updS fl k v) dg size ev ct a := by
  obtain ⟨cs, h1, h2⟩ := h.obj
  exact sm_obj h (fun j hj => (Below.heap_setCell _ _ _ _ hj).trans ((Below.heap_setCell _ _ _ _ hj).trans (Below.heap_setCell _ _ _ _ hj))) (by simp [World.setCell]) ⟨_, at_set (at_set (at_set h1 _ _) _ _) _ _, ob_fl h2 hk v⟩
/- A place stored in. -/
theorem sm_pl (h : Sm w F X c pl l f M fl dg size ev ct a) {i : Nat} (hi : i < c.n) (r : R) : Sm (set8o w a.P (i * 8) (.string r.key) (.int .u64 r.s.p) (.int .u32 r.s.l) (.int .u8 r.s.n) (.int .u8 r.kind) (.int .u32 r.flags) (.int .u64 r.exp) (.string r.body)) F X c (updR pl i r) l f M fl dg size ev ct a := by
  have t := sm_ats h
  obtain ⟨cs, h1, h2⟩ := h.obj
  have e : ∀ k, k ≠ a.P → (set8o w a.P (i * 8) (.string r.key) (.int .u64 r.s.p) (.int .u32 r.s.l) (.int .u8 r.s.n) (.int .u8 r.kind) (.int .u32 r.flags) (.int .u64 r.exp) (.string r.body)).heap[k]? = w.heap[k]? := fun k hk => set8o_heap w a.P _ _ _ _ _ _ _ _ _ hk
  have hs : w.heap.size ≤ (set8o w a.P (i * 8) (.string r.key) (.int .u64 r.s.p) (.int .u32 r.s.l) (.int .u8 r.s.n) (.int .u8 r.kind) (.int .u32 r.flags) (.int .u64 r.exp) (.string r.body)).heap.size := Nat.le_of_eq (set8o_size w a.P _ _ _ _ _ _ _ _ _).symm
  exact ⟨⟨cs, (e X (ne_of t.x t.p (by decide))).trans h1, h2⟩, rowR_set h.row hi r, slo_block h.tab (e _ (ne_of t.xt t.p (by decide))) (e _ (ne_of t.rt t.p (by decide))), h.mp, h.cnt, lru_block h.lst (e _ (ne_of t.xl t.p (by decide))) (e _ (ne_of t.rl t.p (by decide))), whl_block h.whl (fun k hk => e k (fun q => h.nP (q ▸ hk))) hs, h.fX, h.fP, h.fXt, h.fRt, h.fXl, h.fRl, h.fw, h.nX, h.nP, h.nXt, h.nRt, h.nXl, h.nRl, fun k hk => Nat.lt_of_lt_of_le (h.low k hk) hs⟩
/- The table, the list, the wheel turned. -/
theorem sm_tab {f' : ByteArray → Option Int} {ct' : Nat} {T' : Slo.Tb} (h : Sm w F X c pl l f M fl dg size ev ct a) (t : Slo.Turns a.Xt a.Rt w w') (g : Slo.Good w' a.Xt a.Rt a.m c.n T') (hf : ∀ k, Slo.mp a.m T' k = f' k) (hc : Slo.cnt T' a.m = ct') : Sm w' F X c pl l f' M fl dg size ev ct' { a with T := T' } := by
  have q := sm_ats h
  obtain ⟨cs, h1, h2⟩ := h.obj
  have e : ∀ k, F k → k ≠ a.Xt → k ≠ a.Rt → w'.heap[k]? = w.heap[k]? := fun k hk => t.2.2.2 k (h.low k hk)
  exact ⟨⟨cs, (e X h.fX (ne_of q.x q.xt (by decide)) (ne_of q.x q.rt (by decide))).trans h1, h2⟩, rowR_block h.row (e _ h.fP (ne_of q.p q.xt (by decide)) (ne_of q.p q.rt (by decide))), g, hf, hc, lru_block h.lst (e _ h.fXl (ne_of q.xl q.xt (by decide)) (ne_of q.xl q.rt (by decide))) (e _ h.fRl (ne_of q.rl q.xt (by decide)) (ne_of q.rl q.rt (by decide))), whl_block h.whl (fun k hk => e k (h.fw k hk) (fun z => h.nXt (z ▸ hk)) (fun z => h.nRt (z ▸ hk))) t.2.2.1, h.fX, h.fP, h.fXt, h.fRt, h.fXl, h.fRl, h.fw, h.nX, h.nP, h.nXt, h.nRt, h.nXl, h.nRl, fun k hk => Nat.lt_of_lt_of_le (h.low k hk) t.2.2.1⟩
theorem sm_lst {l' : List Nat} (h : Sm w F X c pl l f M fl dg size ev ct a) (t : Turn a.Rl w w') (g : Lru.Good w' a.Xl a.Rl c.n l') : Sm w' F X c pl l' f M fl dg size ev ct a := by
  have q := sm_ats h
  obtain ⟨cs, h1, h2⟩ := h.obj
  have e : ∀ k, F k → k ≠ a.Rl → w'.heap[k]? = w.heap[k]? := fun k hk => t.2.2.2 k (h.low k hk)
  exact ⟨⟨cs, (e X h.fX (ne_of q.x q.rl (by decide))).trans h1, h2⟩, rowR_block h.row (e _ h.fP (ne_of q.p q.rl (by decide))), slo_block h.tab (e _ h.fXt (ne_of q.xt q.rl (by decide))) (e _ h.fRt (ne_of q.rt q.rl (by decide))), h.mp, h.cnt, g, whl_block h.whl (fun k hk => e k (h.fw k hk) (fun z => h.nRl (z ▸ hk))) t.2.2.1, h.fX, h.fP, h.fXt, h.fRt, h.fXl, h.fRl, h.fw, h.nX, h.nP, h.nXt, h.nRt, h.nXl, h.nRl, fun k hk => Nat.lt_of_lt_of_le (h.low k hk) t.2.2.1⟩
theorem sm_whl {M' : List It} {G : Nat → Prop} (h : Sm w F X c pl l f M fl dg size ev ct a) (t : Whl.Stp a.Fw G w w') (g : Whl.Good w' G a.Xw M') : Sm w' (fun k => F k ∨ G k) X c pl l f M' fl dg size ev ct { a with Fw := G } := by
  obtain ⟨cs, h1, h2⟩ := h.obj
  have e : ∀ k, F k → ¬ a.Fw k → w'.heap[k]? = w.heap[k]? := fun k hk hn => t.1.2.2.2 k (h.low k hk) hn
  have n : ∀ k, F k → ¬ a.Fw k → ¬ G k := fun k hk hn hg => by
    rcases t.2 k hg with z | z
    · exact hn z
    · have := h.low k hk; omega
  exact ⟨⟨cs, (e X h.fX h.nX).trans h1, h2⟩, rowR_block h.row (e _ h.fP h.nP), slo_block h.tab (e _ h.fXt h.nXt) (e _ h.fRt h.nRt), h.mp, h.cnt, lru_block h.lst (e _ h.fXl h.nXl) (e _ h.fRl h.nRl), g, .inl h.fX, .inl h.fP, .inl h.fXt, .inl h.fRt, .inl h.fXl, .inl h.fRl, fun k hk => .inr hk, n _ h.fX h.nX, n _ h.fP h.nP, n _ h.fXt h.nXt, n _ h.fRt h.nRt, n _ h.fXl h.nXl, n _ h.fRl h.nRl, fun k hk => by
    rcases hk with hk | hk
    · exact Nat.lt_of_lt_of_le (h.low k hk) t.1.2.2.1
    · exact Whl.good_low g k hk⟩
theorem sm_whl' {M' : List It} (h : Sm w F X c pl l f M fl dg size ev ct a) (t : Tn a.Fw w w') (g : Whl.Good w' a.Fw a.Xw M') : Sm w' F X c pl l f M' fl dg size ev ct a := by
  obtain ⟨cs, h1, h2⟩ := h.obj
  have e : ∀ k, F k → ¬ a.Fw k → w'.heap[k]? = w.heap[k]? := fun k hk hn => t.2.2.2 k (h.low k hk) hn
  exact ⟨⟨cs, (e X h.fX h.nX).trans h1, h2⟩, rowR_block h.row (e _ h.fP h.nP), slo_block h.tab (e _ h.fXt h.nXt) (e _ h.fRt h.nRt), h.mp, h.cnt, lru_block h.lst (e _ h.fXl h.nXl) (e _ h.fRl h.nRl), g, h.fX, h.fP, h.fXt, h.fRt, h.fXl, h.fRl, h.fw, h.nX, h.nP, h.nXt, h.nRt, h.nXl, h.nRl, fun k hk => Nat.lt_of_lt_of_le (h.low k hk) t.2.2.1⟩
/- What is read. -/
theorem sm_cells (h : Sm w F X c pl l f M fl dg size ev ct a) : (w.cell? ⟨X, 0, none⟩ = some (.slice (some ⟨a.P, 0, none⟩) c.n c.n) ∧ w.cell? ⟨X, 1, none⟩ = some (.pointer (some ⟨a.Xt, 0, none⟩)) ∧ w.cell? ⟨X, 2, none⟩ = some (.pointer (some ⟨a.Xl, 0, none⟩)) ∧ w.cell? ⟨X, 3, none⟩ = some (.pointer (some ⟨a.Xw, 0, none⟩)) ∧ w.cell? ⟨X, 260, none⟩ = some (.int .i64 (c.B : Int)) ∧ w.cell? ⟨X, 261, none⟩ = some (.int .i64 (size : Int)) ∧ w.cell? ⟨X, 262, none⟩ = some (.int .u64 (c.K : Int)) ∧ w.cell? ⟨X, 263, none⟩ = some (.int .i64 (ev : Int))) ∧ ∀ j, w.frozen? ⟨X, j, none⟩ = false := by
  obtain ⟨cs, h1, h2⟩ := h.obj
  exact ⟨⟨(at_cell h1 _).trans h2.c0, (at_cell h1 _).trans h2.c1, (at_cell h1 _).trans h2.c2, (at_cell h1 _).trans h2.c3, (at_cell h1 _).trans h2.mo, (at_cell h1 _).trans h2.si, (at_cell h1 _).trans h2.ke, (at_cell h1 _).trans h2.ev⟩, at_frozen h1⟩
theorem sm_floor (h : Sm w F X c pl l f M fl dg size ev ct a) {k : Nat} (hk : k < 64) : w.cell? ⟨X, 4 + k * 3, none⟩ = some (.int .u64 (fl k).p) ∧ w.cell? ⟨X, 4 + k * 3 + 1, none⟩ = some (.int .u32 (fl k).l) ∧ w.cell? ⟨X, 4 + k * 3 + 2, none⟩ = some (.int .u8 (fl k).n) := by
  obtain ⟨cs, h1, h2⟩ := h.obj
  obtain ⟨g0, g1, g2⟩ := h2.fl k hk
  exact ⟨(at_cell h1 _).trans g0, (at_cell h1 _).trans g1, (at_cell h1 _).trans g2⟩
theorem sm_digest (h : Sm w F X c pl l f M fl dg size ev ct a) {k : Nat} (hk : k < 64) : w.cell? ⟨X, 196 + k, none⟩ = some (.int .u64 (dg k : Int)) := by
  obtain ⟨cs, h1, h2⟩ := h.obj
  exact (at_cell h1 _).trans (h2.dg k hk)
end
/- A store, its places known. -/
def StI (w : World) (F : Nat → Prop) (X : Nat) (c : Cf) (pl : Nat → R) (l : List Nat) (fl : Nat → Stp) (ev : Nat) (pend : Nat → Prop) : Prop :=
  ∃ f M a, Sm w F X c pl l f M fl (fun k => digL k (l.map pl)) (sizeL (l.map pl)) ev l.length a ∧ Coh c pl l f M pend
def St (w : World) (F : Nat → Prop) (X : Nat) (c : Cf) (s : MS) : Prop := ∃ pl l, StI w F X c pl l s.fl s.ev (fun _ => False) ∧ s.L = l.map pl
section
variable {w w' : World} {F : Nat → Prop} {X : Nat} {c : Cf} {pl : Nat → R} {l : List Nat} {fl : Nat → Stp} {ev : Nat} {pend : Nat → Prop} {s : MS}
theorem sti_kept (h : StI w F X c pl l fl ev pend) (k : Kept w w') : StI w' F X c pl l fl ev pend := by
  obtain ⟨f, M, a, h1, h2⟩ := h
  exact ⟨f, M, a, sm_kept h1 k, h2⟩
theorem sti_tn {G : Nat → Prop} (h : StI w F X c pl l fl ev pend) (t : Tn G w w') (hG : ∀ k, F k → ¬ G k) : StI w' F X c pl l fl ev pend := by
  obtain ⟨f, M, a, h1, h2⟩ := h
  exact ⟨f, M, a, sm_tn h1 t hG, h2⟩
theorem st_kept (h : St w F X c s) (k : Kept w w') : St w' F X c s := by
  obtain ⟨pl, l, h1, h2⟩ := h
  exact ⟨pl, l, sti_kept h1 k, h2⟩
theorem st_tn {G : Nat → Prop} (h : St w F X c s) (t : Tn G w w') (hG : ∀ k, F k → ¬ G k) : St w' F X c s := by
  obtain ⟨pl, l, h1, h2⟩ := h
  exact ⟨pl, l, sti_tn h1 t hG, h2⟩
theorem sti_low (h : StI w F X c pl l fl ev pend) : ∀ k, F k → k < w.heap.size := by
  obtain ⟨f, M, a, h1, h2⟩ := h
  exact h1.low
theorem st_low (h : St w F X c s) : ∀ k, F k → k < w.heap.size := by
  obtain ⟨pl, l, h1, h2⟩ := h
  exact sti_low h1
end
end Go.Proofs.YthgbdaladngpdaaGreat
