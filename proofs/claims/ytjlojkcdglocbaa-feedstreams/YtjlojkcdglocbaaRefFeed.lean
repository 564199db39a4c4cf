/- The contracts of the reference's feed (the place of the next line feed) and of append to its row of commands. -/
import Derived.Test.YtjlojkcdglocbaaStreamMath
import Derived.Test.YtjlojkcdglocbaaRefParse
namespace Go.Proofs.Ytjlojkcdglocbaa
open Go.ChangeShapes Go.WideShapes Go.ChangeAt Go.RowKit
set_option linter.unusedVariables false
set_option linter.unusedSimpArgs false

theorem index_run (s : ByteArray) (j : Nat) (h : j < s.data.toList.length) (w : World) : (Instr.index 9 (.string s) (.int .i64 (j : Int))).run Try.prog w = .ok (.int .u8 (s.data.toList[j].toNat : Int)) w := by
  obtain ⟨⟨l⟩⟩ := s
  rw [run_index_string w 9 _ .i64 (j : Int) Try.underlying9, dif_pos ⟨by omega, by rw [size_list]; exact Int.ofNat_lt.2 h⟩]
  rfl
theorem ne_ten' (b : UInt8) : ((b.toNat : Int) != 10) = decide (b ≠ 10) := by
  rw [Bool.eq_iff_iff]
  simp only [bne_iff_ne, decide_eq_true_eq]
  constructor
  · rintro e rfl; exact e rfl
  · intro e h; exact e (UInt8.toNat_inj.1 (by show b.toNat = 10; omega))
set_option maxHeartbeats 1600000 in
set_option maxRecDepth 100000 in
theorem feedEnd_any (s : ByteArray) (i : Nat) (hi : i ≤ s.size) (hs : s.size ≤ 20000) (w : World) :
    Calls Try.prog 18 #[.string s, .int .i64 (i : Int)] w fun e w' => ∃ n : Nat, e = .returned (.int .i64 (n : Int)) ∧ FE s.data.toList i n ∧ w' = w := by
  have hsl := size_list s
  obtain ⟨m, hm⟩ : ∃ m, m = s.size := ⟨_, rfl⟩
  have HM : Hid (s.size = m) := hm.symm
  have HML : Hid (s.data.toList.length = m) := by show _ = _; omega
  have hm2 : m ≤ 20000 := by omega
  have HI : Hid (i ≤ m) := by show _ ≤ _; omega
  clear hsl hi hs hm
  go_enter Try.func18, Try.ntmps18
  go_wp2_with fail
  go_loopw [1] (fun v1 wr => ∃ k : Nat, v1 = .int .i64 (k : Int) ∧ i ≤ k ∧ k ≤ m ∧ Hid (∀ q (h : q < s.data.toList.length), i ≤ q → q < k → s.data.toList[q] ≠ 10) ∧ Hid (wr = w)) (fun v1 wr => m - (intOf v1).toNat)
  case atStart => exact ⟨i, rfl, Nat.le_refl _, HI.out, fun q _ h1 h2 => absurd h2 (by omega), rfl⟩
  case round =>
    obtain ⟨k, rfl, hik, hkm, HQ, hw⟩ := hrel
    have hw := hw.out
    subst hw
    have hsz : s.size = m := HM.out
    have HE : Hid (∀ n, n = k → (∀ q (h : q < s.data.toList.length), i ≤ q → q < k → s.data.toList[q] ≠ 10) → (k < s.data.toList.length → ∀ h : k < s.data.toList.length, s.data.toList[k] = 10) → FE s.data.toList i n) := fun n hn hq hl => by
      subst hn
      refine ⟨hik, by rw [HML.out]; exact hkm, fun hm => ?_, fun he => ?_⟩
      · unfold mid at hm
        obtain ⟨p, hp, hpe⟩ := List.getElem_of_mem hm
        simp at hp hpe
        exact hq (i + p) (by simp; omega) (by omega) (by omega) (by simpa using hpe)
      · rw [List.take_succ_eq_append_getElem he, hl he he]
    by_cases hlt : k < m
    · have hkL : k < s.data.toList.length := by rw [HML.out]; exact hlt
      have hrun := index_run s k hkL
      have hte := ne_ten' s.data.toList[k]
      by_cases hten : s.data.toList[k] = 10
      · rw [show decide (s.data.toList[k] ≠ 10) = false from decide_eq_false (fun h => h hten)] at hte
        have HE2 := hid (HE.out k rfl HQ.out (fun _ _ => hten))
        generalize s.data.toList[k].toNat = y at *
        clear hten HE
        go_wp2_with fail
        go_ret
        exact ⟨k, rfl, HE2.out, rfl⟩
      · rw [show decide (s.data.toList[k] ≠ 10) = true from decide_eq_true hten] at hte
        have HQ2 : Hid (∀ q (h : q < s.data.toList.length), i ≤ q → q < k + 1 → s.data.toList[q] ≠ 10) := fun q h h1 h2 => by
          rcases (show q < k ∨ q = k by omega) with h3 | rfl
          · exact HQ.out q h h1 h3
          · exact hten
        generalize s.data.toList[k].toNat = y at *
        clear hten HE
        go_wp2_with fail
        go_roundw
        case rel => exact ⟨k + 1, by go_num, by omega, by omega, HQ2, by first | exact hid trivial | exact hid rfl⟩
        case measure => simp [intOf]; omega
    · have HE2 := hid (HE.out k rfl HQ.out (fun h => absurd h (by rw [HML.out]; exact hlt)))
      clear HE
      go_wp2_with fail
      go_ret
      exact ⟨k, rfl, HE2.out, rfl⟩
/- The reference's row: it may be empty and yet have a place. -/
def RowS (B : Nat) (w : World) (v : Value) (ps : List (Td × Value)) : Prop :=
  w.ownsRow B 38 7 v ps.length (ps.flatMap tdc) ∧ (∀ p ∈ ps, Keys w p.2 p.1.c.keys) ∧ ∀ g, v.ownBlock = some g → ∀ x, w.cell? ⟨g, 0, none⟩ ≠ some (.string x)
theorem own_place {P : Program} {B : Nat} (w : World) (t tx ty e : TypeId) (i : TypeInfo) (z : Value) (bytes : Nat) (ht : P.underlying t = some (.slice e)) (hi : P.info? e = some i) (hz : i.zero = some z) (hby : i.bytes = bytes)
    {v : Value} {n : Nat} {xs : List Value} (hown : w.ownsRow B e i.size v n xs) {x : Value} {m : Nat} {news : List Value} (hs : Src P i.size tx x m news w) (hmax : n + m ≤ maxLen) (hbytes : (n + m) * bytes ≤ 140737488355328) {v' : Value} {w' : World}
    (hr : (Builtin.append_ #[t, tx] ty #[v, x]).run P w = .ok v' w') : v'.ownBlock = v.ownBlock ∨ v'.ownBlock = some w.heap.size := by
  subst hby
  have hmax' : n + m ≤ 9223372036854775807 := by unfold maxLen at hmax; omega
  rcases hown.2 with ⟨rfl, rfl⟩ | ⟨g, cap, cur, rfl, hBg, hg, hnc, hcm, hcs, htk⟩
  · have hx : xs = [] := List.length_eq_zero_iff.1 (by simpa using hown.1)
    subst hx
    by_cases h0 : m = 0
    · subst h0
      have hn : news = [] := List.length_eq_zero_iff.1 (by simpa using hs.newsLen)
      subst hn
      rw [run_append_nothing w t tx ty e i ht hi none 0 0 (Nat.le_refl _) x hs] at hr
      injection hr with h1 h2
      exact .inl (by rw [← h1])
    · rw [run_append_grow_src (P := P) w t tx ty e i z ht hi hz none 0 0 [] (run_firstCells_none w.drew i.size 0 0 0) x m news hs (by omega) (by omega) (growslice_fits (by omega) hbytes)] at hr
      injection hr with h1 h2
      exact .inr (by rw [← h1]; rfl)
  · by_cases hroom : n + m ≤ cap
    · have hfit : n * i.size + news.length ≤ cur.size := by rw [hs.newsLen, hcs, ← Nat.add_mul]; exact Nat.mul_le_mul_right _ hroom
      rw [room_src w t tx ty e i ht hi g n cap cur hg x m news hs hroom hfit] at hr
      injection hr with h1 h2
      exact .inl (by rw [← h1]; rfl)
    · have hold : (Builtin.firstCells i.size n (.slice (some ⟨g, 0, none⟩) n cap)).run P w.drew = .ok xs.toArray w.drew := run_firstCells_some w.drew i.size n _ n cap xs hown.1 (by simpa using hown.cells (g := g) rfl)
      rw [run_append_grow_src (P := P) w t tx ty e i z ht hi hz (some ⟨g, 0, none⟩) n cap xs hold x m news hs (by omega) (by omega) (growslice_fits (by omega) hbytes)] at hr
      injection hr with h1 h2
      exact .inr (by rw [← h1]; rfl)
section
variable {B : Nat} {u w w' : World} {v : Value} {ps : List (Td × Value)}
theorem rows_set {X o : Nat} {x : Value} (h : RowS B w v ps) (hn : v.ownBlock ≠ some X) (hX : ∀ s, w.cell? ⟨X, 0, none⟩ ≠ some (.string s)) : RowS B (w.setCell ⟨X, o, none⟩ x) v ps := by
  have hb : ∀ g, v.ownBlock = some g → (w.setCell ⟨X, o, none⟩ x).heap[g]? = w.heap[g]? := fun g hg => Below.heap_setCell _ _ _ _ (by show g ≠ X; rintro rfl; exact hn hg)
  exact ⟨own_kept h.1 hb, fun p hp => keys_setc (h.2.1 p hp) hX, fun g hg y => by rw [World.cell?_of_block (w := w) (a := ⟨g, 0, none⟩) (hb g hg)]; exact h.2.2 g hg y⟩
theorem rows_keys {x : Value} {K : List ByteArray} (h : RowS B w v ps) (g : w.grownBy w' v.ownBlock) (hk : Keys w x K) : Keys w' x K :=
  keys_block (A := 0) hk (fun A hA hlt => g.block A hlt (fun e => by
    obtain ⟨s, hs⟩ := hA
    exact h.2.2 A e.symm s hs)) g.size
theorem rows_kept (h : RowS B w v ps) (k : Kept w w') : RowS B w' v ps :=
  ⟨own_kept h.1 (fun g hg => kept_block k (own_lt h.1 hg).2), fun p hp => keys_kept (h.2.1 p hp) k, fun g hg x => by rw [kept_cell k (own_lt h.1 hg).2]; exact h.2.2 g hg x⟩
theorem rows_made (w : World) (hB : B ≤ w.heap.size) : RowS B (w.alloc (.cells #[] 38)) (.slice (some ⟨w.heap.size, 0, none⟩) 0 0) [] := by
  refine ⟨World.ownsRow_made w #[] 0 hB (by unfold maxLen; omega) rfl, fun p h => absurd h (by simp), fun g hg x => ?_⟩
  have e : w.heap.size = g := by simpa [Value.ownBlock] using hg
  subst e
  rw [at_cell (at_new w #[] 38) 0]
  simp
theorem kept_grownS (h : RowS B w v ps) (g : w.grownBy w' v.ownBlock) (hf : Kept u w) (hB : u.heap.size ≤ B) : Kept u w' :=
  kept_of (g.os.trans (kept_os hf)) (g.output.trans (kept_output hf)) (Nat.le_trans hf.2 g.size) (fun k hk => (g.block k (Nat.lt_of_lt_of_le hk hf.2) (fun e => by
    have := (own_lt h.1 e.symm).1
    omega)).trans (kept_block hf hk))
theorem rows_push (h : RowS B w v ps) (t : Td) (kv : Value) (hk : Keys w kv t.c.keys) (hB : B ≤ w.heap.size) (hl : ps.length + 1 ≤ 4294967300) :
    ∃ v' w', (Builtin.append_ #[26, 26] 26 #[v, .slice (some ⟨w.heap.size, 0, none⟩) 1 1]).run Try.prog (w.alloc (.cells #[.int .i64 t.c.kind, kv, .int .u32 t.c.flags, .int .i64 t.c.exp, .string t.body, .bool t.c.quiet, .string t.c.reply] 38)) = .ok v' w' ∧ RowS B w' v' (ps ++ [(t, kv)]) ∧ (∀ {u : World}, Kept u w → u.heap.size ≤ B → Kept u w') ∧ (∀ {X : Nat} {cs : Array Value}, At w X cs 38 → v.ownBlock ≠ some X → At w' X cs 38) ∧ (∀ {x : Value} {K : List ByteArray}, Keys w x K → Keys w' x K) ∧ w.heap.size ≤ w'.heap.size ∧ (∀ g, v'.ownBlock = some g → v.ownBlock = some g ∨ g = w.heap.size + 1) := by
  obtain ⟨i, hi, hz, h1, h2⟩ := info_parts info38
  have hA := at_new w #[.int .i64 t.c.kind, kv, .int .u32 t.c.flags, .int .i64 t.c.exp, .string t.body, .bool t.c.quiet, .string t.c.reply] 38
  have hKp : Kept w (w.alloc (.cells #[.int .i64 t.c.kind, kv, .int .u32 t.c.flags, .int .i64 t.c.exp, .string t.body, .bool t.c.quiet, .string t.c.reply] 38)) := kept_alloc (kept_refl w) _
  have hR := rows_kept h hKp
  have hK := keys_kept hk hKp
  have hsz : (w.alloc (.cells #[.int .i64 t.c.kind, kv, .int .u32 t.c.flags, .int .i64 t.c.exp, .string t.body, .bool t.c.quiet, .string t.c.reply] 38)).heap.size = w.heap.size + 1 := by simp
  have hk1 := keys_one_cell hk
  generalize w.alloc (.cells #[.int .i64 t.c.kind, kv, .int .u32 t.c.flags, .int .i64 t.c.exp, .string t.body, .bool t.c.quiet, .string t.c.reply] 38) = wa at *
  have hsrc : Src Try.prog 7 26 (.slice (some ⟨w.heap.size, 0, none⟩) 1 1) 1 (tdc (t, kv)) wa := Src.ofSlice wa Try.underlying26 ⟨w.heap.size, 0, none⟩ 1 1 (tdc (t, kv)) (by simp [tdc]) (fun j x hj => by
    rw [add_lit, at_cell hA j, ← hj]
    simp [tdc]) (fun x hx => by
    simp only [tdc, List.mem_cons, List.not_mem_nil, or_false] at hx
    rcases hx with rfl | rfl | rfl | rfl | rfl | rfl | rfl <;> first | rfl | exact hk1)
  obtain ⟨v', w', hr, ho, hg, hn⟩ := own_src (P := Try.prog) wa B 26 26 26 38 i (.agg #[.int .i64 0, .slice none 0 0, .int .u32 0, .int .i64 0, .string ⟨#[]⟩, .bool false, .string ⟨#[]⟩]) 7 88 Try.underlying26 hi hz h1 h2 rfl hR.1 hsrc (by unfold maxLen; omega) (by omega) (by omega)
  have ho' : w'.ownsRow B 38 7 v' (ps ++ [(t, kv)]).length ((ps ++ [(t, kv)]).flatMap tdc) := by simpa [List.flatMap_append] using ho
  refine ⟨v', w', hr, ⟨ho', fun p hp => ?_, fun g hg' x => ?_⟩, fun hu hB' => kept_grownS hR hg (kept_trans hu hKp) hB', fun {X cs} hX hne => (hg.block X (by have := at_lt hX; omega) (fun e => hne e.symm)).trans (at_kept hX hKp), fun hx => rows_keys hR hg (keys_kept hx hKp), Nat.le_trans hKp.2 hg.size, ?_⟩
  · rcases List.mem_append.1 hp with hp | hp
    · exact rows_keys hR hg (hR.2.1 p hp)
    · have : p = (t, kv) := by simpa using hp
      subst this
      exact rows_keys hR hg hK
  · rcases ho'.2 with ⟨e, _⟩ | ⟨b', cap, cur, e, _⟩
    · rw [e] at hg'; cases hg'
    · have e2 : b' = g := by rw [e] at hg'; simpa [Value.ownBlock] using hg'
      subst e2
      have hc := tdc_get (ps ++ [(t, kv)]) 0 (by simp) 0 (by omega)
      rw [own_cell ho' e 0 (by rw [tdc_length]; simp), show (0 : Nat) = 0 * 7 + 0 from rfl, hc]
      simp [tdc]
  · intro g hgv
    rcases own_place (P := Try.prog) wa 26 26 26 38 i (.agg #[.int .i64 0, .slice none 0 0, .int .u32 0, .int .i64 0, .string ⟨#[]⟩, .bool false, .string ⟨#[]⟩]) 88 Try.underlying26 hi hz h2 (h1.symm ▸ hR.1) (h1.symm ▸ hsrc) (by unfold maxLen; omega) (by omega) hr with e | e
    · exact .inl (e.symm.trans hgv)
    · rw [e] at hgv
      injection hgv with hgv
      exact .inr (by omega)
end
end Go.Proofs.Ytjlojkcdglocbaa
