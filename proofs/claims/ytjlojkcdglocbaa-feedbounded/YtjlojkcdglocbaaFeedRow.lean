/- Rows that a call has made itself, and what append leaves of them, whatever is appended: a row's cells or a text's bytes. The sizes are such as memory takes. -/
import Derived.Test.YtjlojkcdglocbaaFeedLib
import Derived.Test.YtjlojkcdglocbaaParse
import Derived.Deep.Upon
import Derived.Laws.AppendOwn
namespace Go.Proofs.Ytjlojkcdglocbaa
open Go.ChangeShapes Go.WideShapes Go.ChangeAt Go.RowKit
set_option linter.unusedVariables false
set_option linter.unusedSimpArgs false

section
variable {P : Program}
/- There is room: the new cells are stored behind the old ones. -/
theorem room_src (w : World) (t tx ty e : TypeId) (i : TypeInfo) (ht : P.underlying t = some (.slice e)) (hi : P.info? e = some i) (g n cap : Nat) (cur : Array Value) (hg : At w g cur e)
    (x : Value) (m : Nat) (news : List Value) (hs : Src P i.size tx x m news w) (hroom : n + m ≤ cap) (hfit : n * i.size + news.length ≤ cur.size) :
    (Builtin.append_ #[t, tx] ty #[.slice (some ⟨g, 0, none⟩) n cap, x]).run P w = .ok (.slice (some ⟨g, 0, none⟩) (n + m) cap) (w.setRow g (cur.toList.take (n * i.size) ++ news ++ cur.toList.drop (n * i.size + news.length)).toArray) := by
  have hput : (storeCells ⟨g, n * i.size, none⟩ news 0).run P w = .ok () (w.setRow g (cur.toList.take (n * i.size) ++ news ++ cur.toList.drop (n * i.size + news.length)).toArray) :=
    run_storeCells_at P g (n * i.size) e news 0 cur w hg (by omega) hs.one
  rcases hs.kind with ⟨e', hk⟩ | hk
  all_goals simp [Builtin.append_, run_underlying ht, run_underlying hk, sizeOf, typeInfo, hi, hs.len, hs.cells, hroom, Addr.add_lit, hput]
/- A row whose block is known whole. -/
theorem own_at {w : World} {B e size n cap g : Nat} {cur : Array Value} {xs : List Value} (hB : B ≤ g) (hA : At w g cur e) (hn : n ≤ cap) (hc : cap ≤ maxLen) (hs : cur.size = cap * size) (hx : ∃ rest, cur.toList = xs ++ rest) (hl : xs.length = n * size) :
    w.ownsRow B e size (.slice (some ⟨g, 0, none⟩) n cap) n xs := by
  obtain ⟨rest, hx⟩ := hx
  exact ⟨hl, .inr ⟨g, cap, cur, rfl, hB, hA, hn, hc, hs, by rw [hx, ← hl, List.take_left]⟩⟩
theorem own_part {cur : Array Value} {xs : List Value} {k : Nat} (h : cur.toList.take k = xs) : cur.toList = xs ++ cur.toList.drop k := by
  rw [← h, List.take_append_drop]
theorem grown_row (w : World) (g : Nat) (row : Array Value) : w.grownBy (w.setRow g row) (some g) where
  os := rfl
  tape := rfl
  output := rfl
  size := by simp
  block := fun k _ hne => setRow_other w g k row (fun he => hne (congrArg some he))
theorem grown_new (w : World) (o : Obj) (r : Option Nat) : w.grownBy (w.drew.alloc o) r where
  os := rfl
  tape := rfl
  output := rfl
  size := by simp
  block := fun k hk _ => kept_block (kept_alloc (kept_drew (kept_refl w)) o) hk
theorem new_row {w : World} {B e size n m c : Nat} {z : Value} {xs news : List Value} (hx : xs.length = n * size) (hn : news.length = m * size) (hzs : z.cells.size = size) (hc : n + m ≤ c) (hcm : c ≤ maxLen) (hB : B ≤ w.heap.size) :
    (w.drew.alloc (.cells ((xs ++ news).toArray ++ Builtin.zeroCells z.cells (c - (n + m))) e)).ownsRow B e size (.slice (some ⟨w.heap.size, 0, none⟩) (n + m) c) (n + m) (xs ++ news) := by
  have hl : (xs ++ news).length = (n + m) * size := by rw [Nat.add_mul, ← hx, ← hn]; simp
  have hz : (Builtin.zeroCells z.cells (c - (n + m))).size = (c - (n + m)) * size := hzs ▸ size_zeroCells z.cells _
  refine own_at hB (at_new w.drew _ e) hc hcm ?_ ⟨(Builtin.zeroCells z.cells (c - (n + m))).toList, by simp⟩ hl
  calc ((xs ++ news).toArray ++ Builtin.zeroCells z.cells (c - (n + m))).size = (n + m) * size + (c - (n + m)) * size := by simp only [Array.size_append, hz, List.size_toArray, hl]
    _ = c * size := by rw [← Nat.add_mul, Nat.add_sub_cancel' hc]
theorem own_src (w : World) (B : Nat) (t tx ty e : TypeId) (i : TypeInfo) (z : Value) (size bytes : Nat) (ht : P.underlying t = some (.slice e)) (hi : P.info? e = some i) (hz : i.zero = some z) (hsize : i.size = size) (hby : i.bytes = bytes) (hzs : z.cells.size = size)
    {v : Value} {n : Nat} {xs : List Value} (hown : w.ownsRow B e size v n xs) {x : Value} {m : Nat} {news : List Value} (hs : Src P size tx x m news w) (hmax : n + m ≤ maxLen) (hbytes : (n + m) * bytes ≤ 140737488355328) (hB : B ≤ w.heap.size) :
    ∃ v' w', (Builtin.append_ #[t, tx] ty #[v, x]).run P w = .ok v' w' ∧ w'.ownsRow B e size v' (n + m) (xs ++ news) ∧ w.grownBy w' v.ownBlock ∧ (v' = .slice none 0 0 ↔ v = .slice none 0 0 ∧ m = 0) := by
  subst hsize hby
  have h63 : ((n + m : Nat) : Int) ≤ 9223372036854775807 := by unfold maxLen at hmax; omega
  have hnl := hs.newsLen
  have hgrow : ∀ (b : Option Addr) (c : Nat), v = .slice b n c → c < n + m → (Builtin.firstCells i.size n (.slice b n c)).run P w.drew = .ok xs.toArray w.drew →
      ∃ v' w', (Builtin.append_ #[t, tx] ty #[v, x]).run P w = .ok v' w' ∧ w'.ownsRow B e i.size v' (n + m) (xs ++ news) ∧ w.grownBy w' v.ownBlock ∧ (v' = .slice none 0 0 ↔ v = .slice none 0 0 ∧ m = 0) := by
    rintro b c rfl hlt hold
    refine ⟨_, _, run_append_grow_src (P := P) w t tx ty e i z ht hi hz b n c xs hold x m news hs hlt h63 (growslice_fits hlt hbytes), new_row hown.1 hnl hzs (grownCap_ge w _ _ _) (grownCap_le_maxLen w _ _ _ hmax) hB, grown_new w _ _, ⟨fun h => (by cases h), fun h => ?_⟩⟩
    have h1 := h.1
    injection h1 with h1 h2 h3
    omega
  rcases id hown.2 with ⟨hv, hn⟩ | ⟨g, cap, cur, hv, hBg, hg, hnc, hcm, hcs, htk⟩
  · subst hn
    have hx : xs = [] := List.length_eq_zero_iff.1 (hown.1.trans (Nat.zero_mul _))
    by_cases h0 : m = 0
    · have hnn : news = [] := List.length_eq_zero_iff.1 (by rw [hnl, h0, Nat.zero_mul])
      subst h0 hv hx hnn
      exact ⟨_, w, run_append_nothing w t tx ty e i ht hi none 0 0 (Nat.le_refl _) x hs, hown, ⟨rfl, rfl, rfl, Nat.le_refl _, fun _ _ _ => rfl⟩, by simp⟩
    · exact hgrow none 0 hv (by omega) (by rw [hx]; exact run_firstCells_none w.drew i.size 0 0 0)
  · by_cases hroom : n + m ≤ cap
    · have hfit : n * i.size + news.length ≤ cur.size := by
        rw [hnl, hcs, ← Nat.add_mul]
        exact Nat.mul_le_mul hroom (Nat.le_refl _)
      subst hv
      refine ⟨_, _, room_src w t tx ty e i ht hi g n cap cur hg x m news hs hroom hfit, own_at hBg (setRow_heap w g cur _ e _ hg) hroom hcm ?_ ⟨cur.toList.drop (n * i.size + news.length), by rw [htk]⟩ (by rw [List.length_append, hown.1, hnl, Nat.add_mul]), grown_row w g _, by simp⟩
      have hsplit := congrArg List.length (List.take_append_drop (n * i.size) cur.toList)
      simp at hsplit ⊢
      omega
    · refine hgrow _ cap hv (by omega) ?_
      subst hv
      exact run_firstCells_some w.drew i.size n ⟨g, 0, none⟩ n cap xs hown.1 (fun j u hj => hown.cells (g := g) rfl j u hj)
theorem wpList_run {w w' : World} {ops : Array Oper} {rest : List Oper} {o : Oper} {a : Act} {Q : Exit → Act → World → Prop} (hgd : o.guard = none) (s x : Operand) (t tx : TypeId)
    (ho : o.op = .call { callee := .builtin .append, args := #[s, x], argTypes := #[t, tx] }) (v y v' : Value) (hs : a.eval s = v) (hx : a.eval x = y) (hr : (Builtin.append_ #[t, tx] o.type #[v, y]).run P w = .ok v' w')
    (h : wpList P ops Q rest (a.put o.dst v') w') : wpList P ops Q (o :: rest) a w := by
  refine wpList_plain hgd fun K hK => ?_
  have hgo : K (a.put o.dst v') w' := hK _ _ h
  simpa [Oper.wp, execOp, ho, resolve, invoke, builtin, hs, hx, hr, Oper.upon_value] using hgo
end
def bc (l : List UInt8) : List Value := l.map (fun c => Value.int .u8 (c.toNat : Int))
theorem bc_length (l : List UInt8) : (bc l).length = l.length := by simp [bc]
theorem bc_get (l : List UInt8) (j : Nat) (h : j < l.length) : (bc l)[j]? = some (.int .u8 (l[j].toNat : Int)) := by
  simp [bc, List.getElem?_eq_getElem h]
theorem bc_append (l k : List UInt8) : bc (l ++ k) = bc l ++ bc k := by simp [bc]
theorem bc_bytes (s : ByteArray) : byteCells s = bc s.data.toList := rfl
theorem row_text {B n : Nat} {L : List UInt8} {w : World} (h : ∀ j (hj : j < L.length), w.cell? ⟨B, j, none⟩ = some (.int .u8 (L[j].toNat : Int))) (hL : L.length = n) (cap : Nat) :
    (convert 43 9 (.slice (some ⟨B, 0, none⟩) n cap)).run Try.prog w = .ok (.string (ba L)) w := by
  have hcv := run_convert_bytes_back (P := Try.prog) w 43 9 5 ⟨B, 0, none⟩ cap L Try.underlying43 Try.underlying5 Try.underlying9 (fun j hj => by
    have := h j hj
    rcases Nat.eq_zero_or_pos j with h0 | h0
    · subst h0; simpa [Addr.add] using this
    · rw [show (⟨B, 0, none⟩ : Addr).add j = ⟨B, j, none⟩ by simp [Addr.add]; omega]; exact this)
  rw [hL] at hcv
  exact hcv
theorem nil_text (w : World) : (convert 43 9 (.slice none 0 0)).run Try.prog w = .ok (.string (ba [])) w := by kernel_rfl
theorem own_cell {w : World} {B e n size : Nat} {v : Value} {xs : List Value} (h : w.ownsRow B e size v n xs) {g m cap : Nat} (hv : v = .slice (some ⟨g, 0, none⟩) m cap) (j : Nat) (hj : j < xs.length) : w.cell? ⟨g, j, none⟩ = xs[j]? := by
  subst hv
  have := h.cells (g := g) rfl j _ (List.getElem?_eq_getElem hj)
  rw [List.getElem?_eq_getElem hj, ← this]
  rcases Nat.eq_zero_or_pos j with h0 | h0
  · subst h0; simp [Addr.add]
  · rw [show (⟨g, 0, none⟩ : Addr).add j = ⟨g, j, none⟩ by simp [Addr.add]; omega]
end Go.Proofs.Ytjlojkcdglocbaa
