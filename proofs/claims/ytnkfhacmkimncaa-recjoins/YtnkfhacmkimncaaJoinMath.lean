/- The plain mathematics of joins of many records, and of a row of records that the call itself makes. No condition but those that are stated. -/
import Derived.Test.YtnkfhacmkimncaaEqRec
import Derived.Test.YtnkfhacmkimncaaRefPut
import Derived.Test.YtnkfhacmkimncaaOpen
namespace Go.Proofs.Ytnkfhacmkimncaa
open Go.ChangeShapes Go.WideShapes Go.ChangeAt Go.RowKit
set_option linter.unusedVariables false
set_option linter.unusedSimpArgs false

def fa (O : Nat → R) : Nat → R
  | 0 => O 0
  | k + 1 => joinR (fa O k) (O k)
def fb (O : Nat → R) (n len : Nat) : Nat → R
  | 0 => O n
  | k + 1 => joinR (O ((n + len - k) % len)) (fb O n len k)
theorem fa_mem (O : Nat → R) (len : Nat) (h : 0 < len) : ∀ k, k ≤ len → ∃ j, j < len ∧ fa O k = O j
  | 0, _ => ⟨0, h, rfl⟩
  | k + 1, hk => by
    obtain ⟨j, hj, e⟩ := fa_mem O len h k (by omega)
    rcases join_or (fa O k) (O k) with h1 | h1
    · exact ⟨j, hj, h1.trans e⟩
    · exact ⟨k, by omega, h1⟩
theorem fa_ge (O : Nat → R) : ∀ k j, j < k → cmpR (O j) (fa O k) ≤ 0
  | k + 1, j, hj => by
    have hg := join_ge (fa O k) (O k)
    rcases (show j < k ∨ j = k by omega) with h | rfl
    · exact cmpR_trans (fa_ge O k j h) hg.1
    · exact hg.2
theorem fb_mem (O : Nat → R) (n len : Nat) (hn : n < len) : ∀ k, k ≤ len → ∃ j, j < len ∧ fb O n len k = O j
  | 0, _ => ⟨n, hn, rfl⟩
  | k + 1, hk => by
    obtain ⟨j, hj, e⟩ := fb_mem O n len hn k (by omega)
    rcases join_or (O ((n + len - k) % len)) (fb O n len k) with h1 | h1
    · exact ⟨_, Nat.mod_lt _ (by omega), h1⟩
    · exact ⟨j, hj, h1.trans e⟩
theorem fb_ge (O : Nat → R) (n len : Nat) : ∀ k i, i < k → cmpR (O ((n + len - i) % len)) (fb O n len k) ≤ 0
  | k + 1, i, hi => by
    have hg := join_ge (O ((n + len - k) % len)) (fb O n len k)
    rcases (show i < k ∨ i = k by omega) with h | rfl
    · exact cmpR_trans (fb_ge O n len k i h) hg.2
    · exact hg.1
theorem fb_all (O : Nat → R) (n len j : Nat) (hn : n < len) (hj : j < len) : cmpR (O j) (fb O n len len) ≤ 0 := by
  by_cases h : j ≤ n
  · have := fb_ge O n len len (n - j) (by omega)
    rw [show n + len - (n - j) = j + len by omega, Nat.add_mod_right, Nat.mod_eq_of_lt hj] at this
    exact this
  · have := fb_ge O n len len (n + len - j) (by omega)
    rw [show n + len - (n + len - j) = j by omega, Nat.mod_eq_of_lt hj] at this
    exact this
theorem fa_eq_fb (O : Nat → R) (n len : Nat) (hn : n < len) (key : ByteArray) (hk : ∀ j, (O j).key = key) : fa O len = fb O n len len := by
  obtain ⟨i, hi, e1⟩ := fa_mem O len (by omega) len (Nat.le_refl _)
  obtain ⟨j, hj, e2⟩ := fb_mem O n len hn len (Nat.le_refl _)
  have h1 : cmpR (fa O len) (fb O n len len) ≤ 0 := by rw [e1]; exact fb_all O n len i hn hi
  have h2 : cmpR (fb O n len len) (fa O len) ≤ 0 := by
    have := fa_ge O len j hj
    rw [← e2] at this
    exact this
  have h3 := good_rec.neg (fa O len) (fb O n len len)
  apply cmpR_eq
  · rw [e1, e2, hk, hk]
  · omega
/- A row of records, cell by cell. -/
def cellsL (r : R) : List Value := [.string r.key, .int .u64 r.s.p, .int .u32 r.s.l, .int .u8 r.s.n, .int .u8 r.kind, .int .u32 r.flags, .int .u64 r.exp, .string r.body]
def flat (L : List R) : List Value := L.flatMap cellsL
theorem flat_snoc (L : List R) (r : R) : flat (L ++ [r]) = flat L ++ cellsL r := by simp [flat]
theorem flat_get : ∀ (L : List R) (j i : Nat) (hj : j < L.length), i < 8 → (flat L)[j * 8 + i]? = (cellsL L[j])[i]?
  | r :: L, 0, i, _, hi => by
    show (cellsL r ++ flat L)[0 * 8 + i]? = _
    rw [List.getElem?_append_left (by simp [cellsL]; omega)]
    simp
  | r :: L, j + 1, i, hj, hi => by
    have ih := flat_get L j i (by simpa using hj) hi
    show (cellsL r ++ flat L)[(j + 1) * 8 + i]? = _
    rw [List.getElem?_append_right (by simp [cellsL]; omega)]
    have : (j + 1) * 8 + i - (cellsL r).length = j * 8 + i := by simp [cellsL]; omega
    rw [this, ih]
    simp
theorem own_lies {w : World} {B g cap n : Nat} {L : List R} (h : w.ownsRow B 27 8 (.slice (some ⟨g, 0, none⟩) n cap) n (flat L)) (j : Nat) (hj : j < L.length) : Lies w g (j * 8) L[j] := by
  have hc : ∀ i u, i < 8 → (cellsL L[j])[i]? = some u → w.cell? ⟨g, j * 8 + i, none⟩ = some u := fun i u hi hu => by
    have := h.cells (g := g) rfl (j * 8 + i) u (by rw [flat_get L j i hj hi]; exact hu)
    rwa [add_zero_plain] at this
  exact ⟨hc 0 _ (by omega) rfl, hc 1 _ (by omega) rfl, hc 2 _ (by omega) rfl, hc 3 _ (by omega) rfl, hc 4 _ (by omega) rfl, hc 5 _ (by omega) rfl, hc 6 _ (by omega) rfl, hc 7 _ (by omega) rfl⟩
theorem own_kept {w w' : World} {B e s n : Nat} {v : Value} {xs : List Value} (h : w.ownsRow B e s v n xs) (k : Kept w w') : w'.ownsRow B e s v n xs := by
  refine ⟨h.1, ?_⟩
  rcases h.2 with h0 | ⟨g, cap, cur, h1, h2, h3, h4⟩
  · exact .inl h0
  · exact .inr ⟨g, cap, cur, h1, h2, (kept_block k (Array.getElem?_eq_some_iff.1 h3).1).trans h3, h4⟩
theorem own_other {w : World} {B e s n X : Nat} {v : Value} {xs : List Value} (h : w.ownsRow B e s v n xs) (hX : ∀ g, v.ownBlock = some g → g ≠ X) (o : Nat) (u : Value) : (w.setCell ⟨X, o, none⟩ u).ownsRow B e s v n xs := by
  refine ⟨h.1, ?_⟩
  rcases h.2 with h0 | ⟨g, cap, cur, h1, h2, h3, h4⟩
  · exact .inl h0
  · exact .inr ⟨g, cap, cur, h1, h2, (Below.heap_setCell _ _ _ _ (by show g ≠ X; exact hX g (by rw [h1]; rfl))).trans h3, h4⟩
theorem info27 : (Try.prog.info? 27).map (fun i => (i.zero, i.size, i.bytes)) = some (some (.agg #[.string ⟨#[]⟩, .int .u64 0, .int .u32 0, .int .u8 0, .int .u8 0, .int .u32 0, .int .u64 0, .string ⟨#[]⟩]), 8, 64) := by kernel_rfl
theorem rec_new {w : World} {Y : Nat} {r : R} (h : At w Y #[.string r.key, .int .u64 r.s.p, .int .u32 r.s.l, .int .u8 r.s.n, .int .u8 r.kind, .int .u32 r.flags, .int .u64 r.exp, .string r.body] 27) : ∀ j u, (cellsL r)[j]? = some u → w.cell? ((⟨Y, 0, none⟩ : Addr).add j) = some u := by
  intro j u hj
  rw [add_zero_plain, at_cell h j, ← hj]
  show (cellsL r).toArray[j]? = _
  simp
theorem rec_one (r : R) : ∀ u ∈ cellsL r, u.oneCell' = true := by
  intro u hu
  simp only [cellsL, List.mem_cons, List.not_mem_nil, or_false] at hu
  rcases hu with rfl | rfl | rfl | rfl | rfl | rfl | rfl | rfl <;> rfl
end Go.Proofs.Ytnkfhacmkimncaa
