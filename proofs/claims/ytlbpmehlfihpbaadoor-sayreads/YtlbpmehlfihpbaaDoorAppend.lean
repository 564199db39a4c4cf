/- Rows that a call has made itself, and what append leaves of them, whatever row is appended. The sizes are such as memory takes. -/
import Derived.Test.YtlbpmehlfihpbaaDoorFixed
import Derived.Deep.Upon
import Derived.Laws.AppendOwn
namespace Go.Proofs.YtlbpmehlfihpbaaDoor
open Go.ChangeShapes Go.WideShapes Go.ChangeAt Go.RowKit
set_option linter.unusedVariables false
set_option linter.unusedSimpArgs false

section
variable {P : Program}
/- There is room: the new cells are stored behind the old ones. -/
theorem room_src (w : World) (t tx ty e : TypeId) (i : TypeInfo) (ht : P.underlying t = some (.slice e)) (hi : P.info? e = some i) (g n cap : Nat) (cur : Array Value) (hg : At w g cur e)
    (x : Value) (m : Nat) (news : List Value) (hs : Src P i.size tx x m news w) (hroom : n + m ≤ cap) (hfit : n * i.size + news.length ≤ cur.size) :
    (Builtin.append_ #[t, tx] ty #[.slice (some ⟨g, 0, none⟩) n cap, x]).run P w = .ok (.slice (some ⟨g, 0, none⟩) (n + m) cap) (w.setRow g (cur.toList.take (n * i.size) ++ news ++ cur.toList.drop (n * i.size + news.length)).toArray) := by
  have hput : (storeCells ⟨g, n * i.size, none⟩ news 0).run P w = .ok () (w.setRow g (cur.toList.take (n * i.size) ++ news ++ cur.toList.drop (n * i.size + news.length)).toArray) :=
    run_storeCells_at P g (n * i.size) e news 0 cur w hg (by omega) hs.one
  rcases hs.kind with ⟨e', hk⟩ | hk
  all_goals simp [Builtin.append_, run_underlying ht, run_underlying hk, sizeOf, typeInfo, hi, hs.len, hs.cells, hroom, Addr.add_lit, hput]
/- A row whose block is known whole. -/
theorem own_at {w : World} {B e size n cap g : Nat} {cur : Array Value} {xs : List Value} (hB : B ≤ g) (hA : At w g cur e) (hn : n ≤ cap) (hc : cap ≤ maxLen) (hs : cur.size = cap * size) (hx : ∃ rest, cur.toList = xs ++ rest) (hl : xs.length = n * size) :
    w.ownsRow B e size (.slice (some ⟨g, 0, none⟩) n cap) n xs := by
  obtain ⟨rest, hx⟩ := hx
  exact ⟨hl, .inr ⟨g, cap, cur, rfl, hB, hA, hn, hc, hs, by rw [hx, ← hl, List.take_left]⟩⟩
theorem own_part {cur : Array Value} {xs : List Value} {k : Nat} (h : cur.toList.take k = xs) : cur.toList = xs ++ cur.toList.drop k := by
  rw [← h, List.take_append_drop]
theorem grown_row (w : World) (g : Nat) (row : Array Value) : w.grownBy (w.setRow g row) (some g) where
  os := rfl
  tape := rfl
  output := rfl
  size := by simp
  block := fun k _ hne => setRow_other w g k row (fun he => hne (congrArg some he))
theorem grown_new (w : World) (o : Obj) (r : Option Nat) : w.grownBy (w.drew.alloc o) r where
  os := rfl
  tape := rfl
  output := rfl
  size := by simp
  block := fun k hk _ => kept_block (kept_alloc (kept_drew (kept_refl w)) o) hk
theorem new_row {w : World} {B e size n m c : Nat} {z : Value} {xs news : List Value} (hx : xs.length = n * size) (hn : news.length = m * size) (hzs : z.cells.size = size) (hc : n + m ≤ c) (hcm : c ≤ maxLen) (hB : B ≤ w.heap.size) :
    (w.drew.alloc (.cells ((xs ++ news).toArray ++ Builtin.zeroCells z.cells (c - (n + m))) e)).ownsRow B e size (.slice (some ⟨w.heap.size, 0, none⟩) (n + m) c) (n + m) (xs ++ news) := by
  have hl : (xs ++ news).length = (n + m) * size := by rw [Nat.add_mul, ← hx, ← hn]; simp
  have hz : (Builtin.zeroCells z.cells (c - (n + m))).size = (c - (n + m)) * size := hzs ▸ size_zeroCells z.cells _
  refine own_at hB (at_new w.drew _ e) hc hcm ?_ ⟨(Builtin.zeroCells z.cells (c - (n + m))).toList, by simp⟩ hl
  calc ((xs ++ news).toArray ++ Builtin.zeroCells z.cells (c - (n + m))).size = (n + m) * size + (c - (n + m)) * size := by simp only [Array.size_append, hz, List.size_toArray, hl]
    _ = c * size := by rw [← Nat.add_mul, Nat.add_sub_cancel' hc]
theorem own_src (w : World) (B : Nat) (t tx ty e : TypeId) (i : TypeInfo) (z : Value) (size bytes : Nat) (ht : P.underlying t = some (.slice e)) (hi : P.info? e = some i) (hz : i.zero = some z) (hsize : i.size = size) (hby : i.bytes = bytes) (hzs : z.cells.size = size)
    {v : Value} {n : Nat} {xs : List Value} (hown : w.ownsRow B e size v n xs) {x : Value} {m : Nat} {news : List Value} (hs : Src P size tx x m news w) (hmax : n + m ≤ maxLen) (hbytes : (n + m) * bytes ≤ 140737488355328) (hB : B ≤ w.heap.size) :
    ∃ v' w', (Builtin.append_ #[t, tx] ty #[v, x]).run P w = .ok v' w' ∧ w'.ownsRow B e size v' (n + m) (xs ++ news) ∧ w.grownBy w' v.ownBlock ∧ (v' = .slice none 0 0 ↔ v = .slice none 0 0 ∧ m = 0) := by
  subst hsize hby
  have h63 : ((n + m : Nat) : Int) ≤ 9223372036854775807 := by unfold maxLen at hmax; omega
  have hnl := hs.newsLen
  have hgrow : ∀ (b : Option Addr) (c : Nat), v = .slice b n c → c < n + m → (Builtin.firstCells i.size n (.slice b n c)).run P w.drew = .ok xs.toArray w.drew →
      ∃ v' w', (Builtin.append_ #[t, tx] ty #[v, x]).run P w = .ok v' w' ∧ w'.ownsRow B e i.size v' (n + m) (xs ++ news) ∧ w.grownBy w' v.ownBlock ∧ (v' = .slice none 0 0 ↔ v = .slice none 0 0 ∧ m = 0) := by
    rintro b c rfl hlt hold
    refine ⟨_, _, run_append_grow_src (P := P) w t tx ty e i z ht hi hz b n c xs hold x m news hs hlt h63 (growslice_fits hlt hbytes), new_row hown.1 hnl hzs (grownCap_ge w _ _ _) (grownCap_le_maxLen w _ _ _ hmax) hB, grown_new w _ _, ⟨fun h => (by cases h), fun h => ?_⟩⟩
    have h1 := h.1
    injection h1 with h1 h2 h3
    omega
  rcases id hown.2 with ⟨hv, hn⟩ | ⟨g, cap, cur, hv, hBg, hg, hnc, hcm, hcs, htk⟩
  · subst hn
    have hx : xs = [] := List.length_eq_zero_iff.1 (hown.1.trans (Nat.zero_mul _))
    by_cases h0 : m = 0
    · have hnn : news = [] := List.length_eq_zero_iff.1 (by rw [hnl, h0, Nat.zero_mul])
      subst h0 hv hx hnn
      exact ⟨_, w, run_append_nothing w t tx ty e i ht hi none 0 0 (Nat.le_refl _) x hs, hown, ⟨rfl, rfl, rfl, Nat.le_refl _, fun _ _ _ => rfl⟩, by simp⟩
    · exact hgrow none 0 hv (by omega) (by rw [hx]; exact run_firstCells_none w.drew i.size 0 0 0)
  · by_cases hroom : n + m ≤ cap
    · have hfit : n * i.size + news.length ≤ cur.size := by
        rw [hnl, hcs, ← Nat.add_mul]
        exact Nat.mul_le_mul hroom (Nat.le_refl _)
      subst hv
      refine ⟨_, _, room_src w t tx ty e i ht hi g n cap cur hg x m news hs hroom hfit, own_at hBg (setRow_heap w g cur _ e _ hg) hroom hcm ?_ ⟨cur.toList.drop (n * i.size + news.length), by rw [htk]⟩ (by rw [List.length_append, hown.1, hnl, Nat.add_mul]), grown_row w g _, by simp⟩
      have hsplit := congrArg List.length (List.take_append_drop (n * i.size) cur.toList)
      simp at hsplit ⊢
      omega
    · refine hgrow _ cap hv (by omega) ?_
      subst hv
      exact run_firstCells_some w.drew i.size n ⟨g, 0, none⟩ n cap xs hown.1 (fun j u hj => hown.cells (g := g) rfl j u hj)
theorem wpList_run {w w' : World} {ops : Array Oper} {rest : List Oper} {o : Oper} {a : Act} {Q : Exit → Act → World → Prop} (hgd : o.guard = none) (s x : Operand) (t tx : TypeId)
    (ho : o.op = .call { callee := .builtin .append, args := #[s, x], argTypes := #[t, tx] }) (v y v' : Value) (hs : a.eval s = v) (hx : a.eval x = y) (hr : (Builtin.append_ #[t, tx] o.type #[v, y]).run P w = .ok v' w')
    (h : wpList P ops Q rest (a.put o.dst v') w') : wpList P ops Q (o :: rest) a w := by
  refine wpList_plain hgd fun K hK => ?_
  have hgo : K (a.put o.dst v') w' := hK _ _ h
  simpa [Oper.wp, execOp, ho, resolve, invoke, builtin, hs, hx, hr, Oper.upon_value] using hgo
theorem op_run {w w' : World} {o : Oper} {a : Act} {K : Act → World → Prop} {Q : Exit → Act → World → Prop} (s x : Operand) (t tx : TypeId)
    (ho : o.op = .call { callee := .builtin .append, args := #[s, x], argTypes := #[t, tx] }) (v y v' : Value) (hs : a.eval s = v) (hx : a.eval x = y) (hr : (Builtin.append_ #[t, tx] o.type #[v, y]).run P w = .ok v' w')
    (h : K (a.put o.dst v') w') : o.wp P a w K Q := by
  simpa [Oper.wp, execOp, ho, resolve, invoke, builtin, hs, hx, hr, Oper.upon_value] using h
end
theorem flat_length : ∀ L : List R, (flat L).length = L.length * 8
  | [] => rfl
  | r :: L => by
    show (cellsL r ++ flat L).length = _
    rw [List.length_append, flat_length L]
    simp [cellsL]; omega
theorem flat_one (L : List R) : ∀ u ∈ flat L, u.oneCell' = true := by
  intro u hu
  obtain ⟨r, -, hr⟩ := List.mem_flatMap.1 hu
  exact rec_one r u hr
theorem flat_cells {w : World} {b o : Nat} {L : List R} (h : ∀ i (hi : i < L.length), Lies w b (o + i * 8) L[i]) (j : Nat) (u : Value) (hu : (flat L)[j]? = some u) : w.cell? ⟨b, o + j, none⟩ = some u := by
  have hj : j < L.length * 8 := by
    rw [← flat_length]
    exact (List.getElem?_eq_some_iff.1 hu).1
  have hq : j / 8 < L.length := by omega
  obtain ⟨q, i, hi, rfl⟩ : ∃ q i, i < 8 ∧ j = q * 8 + i := ⟨j / 8, j % 8, by omega, by omega⟩
  have hq : q < L.length := by omega
  rw [flat_get L q i hq hi] at hu
  obtain ⟨c0, c1, c2, c3, c4, c5, c6, c7⟩ := h q hq
  rw [show o + (q * 8 + i) = o + q * 8 + i by omega]
  match i, hi with
  | 0, _ => rw [Nat.add_zero, c0]; exact hu
  | 1, _ => rw [c1]; exact hu
  | 2, _ => rw [c2]; exact hu
  | 3, _ => rw [c3]; exact hu
  | 4, _ => rw [c4]; exact hu
  | 5, _ => rw [c5]; exact hu
  | 6, _ => rw [c6]; exact hu
  | 7, _ => rw [c7]; exact hu
theorem row_src {w : World} {oa : Option Addr} {len cap b o : Nat} {L : List R} (h : Row w oa len cap b o L) : Src Tryd.prog 8 22 (.slice oa len cap) len (flat L) w := by
  obtain ⟨h0, h1, h2, h3, h4, h5⟩ := h
  cases oa with
  | none =>
    have hc := h3 rfl
    have hl : len = 0 := by omega
    subst hc hl
    have : L = [] := List.length_eq_zero_iff.1 h0
    subst this
    exact Src.ofNil w Tryd.underlying22 0
  | some a =>
    by_cases hp : 0 < len
    · obtain ⟨e, -⟩ := h4 hp
      cases e
      exact Src.ofSlice w Tryd.underlying22 ⟨b, o, none⟩ len cap (flat L) (by rw [flat_length, h0]) (fun j u hu => by rw [add_plain]; exact flat_cells (fun i hi => (h5 i hi).2) j u hu) (flat_one L)
    · have hl : len = 0 := by omega
      subst hl
      have : L = [] := List.length_eq_zero_iff.1 h0
      subst this
      exact Src.ofSlice w Tryd.underlying22 a 0 cap [] (by simp) (fun j u hu => by simp at hu) (fun u hu => by cases hu)
end Go.Proofs.YtlbpmehlfihpbaaDoor
