/- Rows that a call has made itself, and what append leaves of them, whatever is appended: a row's cells or a text's bytes. The sizes are such as memory takes. -/
import Derived.Test.YtjlojkcdglocbaaFeedLib
import Derived.Test.YtjlojkcdglocbaaParse
import Derived.Deep.Upon
import Derived.Laws.AppendOwn
namespace Go.Proofs.Ytjlojkcdglocbaa
open Go.ChangeShapes Go.WideShapes Go.ChangeAt Go.RowKit
set_option linter.unusedVariables false
set_option linter.unusedSimpArgs false

section
variable {P : Program}
theorem room_src (w : World) (t tx ty e : TypeId) (i : TypeInfo) (ht : P.underlying t = some (.slice e)) (hi : P.info? e = some i) (g n cap : Nat) (cur : Array Value) (hg : w.heap[g]? = some (.cells cur e (0, 0)))
    (x : Value) (m : Nat) (news : List Value) (hs : Src P i.size tx x m news w) (hroom : n + m ≤ cap) (hfit : n * i.size + news.length ≤ cur.size) :
    (Builtin.append_ #[t, tx] ty #[.slice (some ⟨g, 0, none⟩) n cap, x]).run P w = .ok (.slice (some ⟨g, 0, none⟩) (n + m) cap) (w.setRow g (cur.toList.take (n * i.size) ++ news ++ cur.toList.drop (n * i.size + news.length)).toArray) := by
  have h1 := run_storeCells_at P g (n * i.size) e news 0 cur w hg (by simpa using hfit) hs.one
  rw [Nat.add_zero] at h1
  obtain ⟨e', hk⟩ | hk := hs.kind
  · simp [Builtin.append_, run_underlying ht, run_underlying hk, sizeOf, typeInfo, hi, hs.len, hs.cells, hroom, Addr.add_lit, h1]
  · simp [Builtin.append_, run_underlying ht, run_underlying hk, sizeOf, typeInfo, hi, hs.len, hs.cells, hroom, Addr.add_lit, h1]
theorem new_row {w : World} {B e size n m c : Nat} {z : Value} {xs news : List Value} (hx : xs.length = n * size) (hn : news.length = m * size) (hzs : z.cells.size = size) (hc : n + m ≤ c) (hcm : c ≤ maxLen) (hB : B ≤ w.heap.size) :
    (w.drew.alloc (.cells ((xs ++ news).toArray ++ Builtin.zeroCells z.cells (c - (n + m))) e)).ownsRow B e size (.slice (some ⟨w.heap.size, 0, none⟩) (n + m) c) (n + m) (xs ++ news) := by
  have hl : (xs ++ news).length = (n + m) * size := by rw [List.length_append, hx, hn, Nat.add_mul]
  refine ⟨hl, .inr ⟨w.heap.size, c, _, rfl, hB, heap_alloc_new w.drew _, hc, hcm, ?_, ?_⟩⟩
  · rw [Array.size_append, size_zeroCells, hzs, List.size_toArray, hl, ← Nat.add_mul]
    congr 1
    omega
  · rw [Array.toList_append, ← hl]
    exact List.take_left
theorem own_src (w : World) (B : Nat) (t tx ty e : TypeId) (i : TypeInfo) (z : Value) (size bytes : Nat) (ht : P.underlying t = some (.slice e)) (hi : P.info? e = some i) (hz : i.zero = some z) (hsize : i.size = size) (hby : i.bytes = bytes) (hzs : z.cells.size = size)
    {v : Value} {n : Nat} {xs : List Value} (hown : w.ownsRow B e size v n xs) {x : Value} {m : Nat} {news : List Value} (hs : Src P size tx x m news w) (hmax : n + m ≤ maxLen) (hbytes : (n + m) * bytes ≤ 140737488355328) (hB : B ≤ w.heap.size) :
    ∃ v' w', (Builtin.append_ #[t, tx] ty #[v, x]).run P w = .ok v' w' ∧ w'.ownsRow B e size v' (n + m) (xs ++ news) ∧ w.grownBy w' v.ownBlock ∧ (v' = .slice none 0 0 ↔ v = .slice none 0 0 ∧ m = 0) := by
  subst hsize hby
  have hmax' : n + m ≤ 9223372036854775807 := by unfold maxLen at hmax; omega
  have hnl := hs.newsLen
  have gb : ∀ (o : Obj) (row : Option Nat), w.grownBy (w.drew.alloc o) row := fun o row => ⟨rfl, rfl, rfl, by simp, fun k hk _ => heap_alloc_old w.drew o hk⟩
  rcases hown.2 with ⟨rfl, rfl⟩ | ⟨g, cap, cur, rfl, hBg, hg, hnc, hcm, hcs, htk⟩
  · have hx : xs = [] := List.length_eq_zero_iff.1 (by simpa using hown.1)
    subst hx
    by_cases h0 : m = 0
    · subst h0
      have hn : news = [] := List.length_eq_zero_iff.1 (by simpa using hnl)
      subst hn
      exact ⟨_, _, run_append_nothing w t tx ty e i ht hi none 0 0 (Nat.le_refl _) x hs, World.ownsRow_nil w B e i.size, ⟨rfl, rfl, rfl, Nat.le_refl _, fun _ _ _ => rfl⟩, by simp⟩
    · have hr := run_append_grow_src (P := P) w t tx ty e i z ht hi hz none 0 0 [] (run_firstCells_none w.drew i.size 0 0 0) x m news hs (by omega) (by omega) (growslice_fits (by omega) hbytes)
      exact ⟨_, _, hr, new_row (by simp) hnl hzs (grownCap_ge w _ _ _) (grownCap_le_maxLen w _ _ _ hmax) hB, gb _ _, by simp [h0]⟩
  · by_cases hroom : n + m ≤ cap
    · have hfit : n * i.size + news.length ≤ cur.size := by rw [hnl, hcs, ← Nat.add_mul]; exact Nat.mul_le_mul_right _ hroom
      refine ⟨_, _, room_src w t tx ty e i ht hi g n cap cur hg x m news hs hroom hfit, ⟨by rw [List.length_append, hown.1, hnl, Nat.add_mul], .inr ⟨g, cap, _, rfl, hBg, setRow_heap w g cur _ e _ hg, hroom, hcm, ?_, ?_⟩⟩, ⟨rfl, rfl, rfl, by simp, fun k _ hk => setRow_other w g k _ (fun e => hk (by simp [Value.ownBlock, e]))⟩, by simp⟩
      · simp only [List.size_toArray, List.length_append, List.length_take, List.length_drop, Array.length_toList]
        omega
      · rw [htk, show (n + m) * i.size = (xs ++ news).length by rw [List.length_append, hown.1, hnl, Nat.add_mul]]
        exact List.take_left
    · have hold : (Builtin.firstCells i.size n (.slice (some ⟨g, 0, none⟩) n cap)).run P w.drew = .ok xs.toArray w.drew := run_firstCells_some w.drew i.size n _ n cap xs hown.1 (by simpa using hown.cells (g := g) rfl)
      have hr := run_append_grow_src (P := P) w t tx ty e i z ht hi hz (some ⟨g, 0, none⟩) n cap xs hold x m news hs (by omega) (by omega) (growslice_fits (by omega) hbytes)
      exact ⟨_, _, hr, new_row hown.1 hnl hzs (grownCap_ge w _ _ _) (grownCap_le_maxLen w _ _ _ hmax) hB, gb _ _, by simp⟩
theorem wpList_run {w w' : World} {ops : Array Oper} {rest : List Oper} {o : Oper} {a : Act} {Q : Exit → Act → World → Prop} (hgd : o.guard = none) (s x : Operand) (t tx : TypeId)
    (ho : o.op = .call { callee := .builtin .append, args := #[s, x], argTypes := #[t, tx] }) (v y v' : Value) (hs : a.eval s = v) (hx : a.eval x = y) (hr : (Builtin.append_ #[t, tx] o.type #[v, y]).run P w = .ok v' w')
    (h : wpList P ops Q rest (a.put o.dst v') w') : wpList P ops Q (o :: rest) a w :=
  wpList_plain hgd fun _ hK => by
    unfold Oper.wp execOp
    simp only [ho, resolve, invoke, builtin, Sem.run_bind, Sem.run_pure, Result.andThen_ok, List.map_toArray, List.map_cons, List.map_nil, hs, hx, hr]
    exact hK _ _ h
end
def bc (l : List UInt8) : List Value := l.map (fun c => Value.int .u8 (c.toNat : Int))
theorem bc_length (l : List UInt8) : (bc l).length = l.length := by simp [bc]
theorem bc_get (l : List UInt8) (j : Nat) (h : j < l.length) : (bc l)[j]? = some (.int .u8 (l[j].toNat : Int)) := by
  simp [bc, List.getElem?_eq_getElem h]
theorem bc_append (l k : List UInt8) : bc (l ++ k) = bc l ++ bc k := by simp [bc]
theorem bc_bytes (s : ByteArray) : byteCells s = bc s.data.toList := rfl
theorem row_text {B n : Nat} {L : List UInt8} {w : World} (h : ∀ j (hj : j < L.length), w.cell? ⟨B, j, none⟩ = some (.int .u8 (L[j].toNat : Int))) (hL : L.length = n) (cap : Nat) :
    (convert 43 9 (.slice (some ⟨B, 0, none⟩) n cap)).run Try.prog w = .ok (.string (ba L)) w := by
  have hcv := run_convert_bytes_back (P := Try.prog) w 43 9 5 ⟨B, 0, none⟩ cap L Try.underlying43 Try.underlying5 Try.underlying9 (fun j hj => by
    have := h j hj
    rcases Nat.eq_zero_or_pos j with h0 | h0
    · subst h0; simpa [Addr.add] using this
    · rw [show (⟨B, 0, none⟩ : Addr).add j = ⟨B, j, none⟩ by simp [Addr.add]; omega]; exact this)
  rw [hL] at hcv
  exact hcv
theorem nil_text (w : World) : (convert 43 9 (.slice none 0 0)).run Try.prog w = .ok (.string (ba [])) w := by kernel_rfl
theorem own_cell {w : World} {B e n size : Nat} {v : Value} {xs : List Value} (h : w.ownsRow B e size v n xs) {g m cap : Nat} (hv : v = .slice (some ⟨g, 0, none⟩) m cap) (j : Nat) (hj : j < xs.length) : w.cell? ⟨g, j, none⟩ = xs[j]? := by
  subst hv
  have := h.cells (g := g) rfl j _ (List.getElem?_eq_getElem hj)
  rw [List.getElem?_eq_getElem hj, ← this]
  rcases Nat.eq_zero_or_pos j with h0 | h0
  · subst h0; simp [Addr.add]
  · rw [show (⟨g, 0, none⟩ : Addr).add j = ⟨g, j, none⟩ by simp [Addr.add]; omega]
end Go.Proofs.Ytjlojkcdglocbaa
