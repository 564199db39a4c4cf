/- Rows of commands in memory: how they stand, what append leaves of them, that they stay while a feed reads on. -/
import Derived.Test.YtjlojkcdglocbaaFeedLine2
namespace Go.Proofs.Ytjlojkcdglocbaa
open Go.ChangeShapes Go.WideShapes Go.ChangeAt Go.RowKit
set_option linter.unusedVariables false
set_option linter.unusedSimpArgs false

def tdc (p : Td × Value) : List Value := [.int .i64 p.1.c.kind, p.2, .int .u32 p.1.c.flags, .int .i64 p.1.c.exp, .string p.1.body, .bool p.1.c.quiet, .string p.1.c.reply]
def RowP (B : Nat) (w : World) (v : Value) (ps : List (Td × Value)) : Prop :=
  w.ownsRow B 38 7 v ps.length (ps.flatMap tdc) ∧ (ps = [] → v = .slice none 0 0) ∧ ∀ p ∈ ps, Keys w p.2 p.1.c.keys
def RowC (B : Nat) (w : World) (v : Value) (ts : List Td) : Prop := ∃ ps : List (Td × Value), ps.map Prod.fst = ts ∧ RowP B w v ps
theorem tdc_length (ps : List (Td × Value)) : (ps.flatMap tdc).length = ps.length * 7 := by
  induction ps with
  | nil => rfl
  | cons p t ih => simp [List.flatMap_cons, ih, tdc]; omega
theorem tdc_get (ps : List (Td × Value)) (i : Nat) (hi : i < ps.length) (j : Nat) (hj : j < 7) : (ps.flatMap tdc)[i * 7 + j]? = (tdc ps[i])[j]? := by
  induction ps generalizing i with
  | nil => simp at hi
  | cons p t ih =>
    rw [List.flatMap_cons]
    cases i with
    | zero =>
      rw [List.getElem?_append_left (by simp [tdc]; omega)]
      simp
    | succ i =>
      rw [List.getElem?_append_right (by simp [tdc]; omega), show (i + 1) * 7 + j - (tdc p).length = i * 7 + j by simp [tdc]; omega, ih i (by simpa using hi)]
      simp
section
variable {B F : Nat} {u w w' : World} {v : Value} {ps : List (Td × Value)} {ts : List Td}
theorem rowp_nil (B : Nat) (w : World) : RowP B w (.slice none 0 0) [] := ⟨World.ownsRow_nil w B 38 7, fun _ => rfl, fun _ h => by cases h⟩
theorem rowc_nil (B : Nat) (w : World) : RowC B w (.slice none 0 0) [] := ⟨[], rfl, rowp_nil B w⟩
theorem rowp_cell (h : RowP B w v ps) {g : Nat} (hg : v.ownBlock = some g) : B ≤ g ∧ g < w.heap.size ∧ (∃ n, w.cell? ⟨g, 0, none⟩ = some (.int .i64 n)) ∧ ∃ cs, At w g cs 38 := by
  have hne : ps ≠ [] := fun e => by rw [h.2.1 e] at hg; cases hg
  have hp : 0 < ps.length := List.length_pos_iff.2 hne
  have hl := h.1.lt g hg
  rcases h.1.2 with ⟨hv, hn⟩ | ⟨g', cap, cur, hv, hB, hb, rest⟩
  · omega
  · have e : g' = g := by rw [hv] at hg; simpa [Value.ownBlock] using hg
    subst e
    refine ⟨hB, hl.2, ⟨ps[0].1.c.kind, ?_⟩, cur, hb⟩
    have := tdc_get ps 0 hp 0 (by omega)
    rw [own_cell h.1 hv 0 (by rw [tdc_length]; omega)]
    simpa [tdc] using this
theorem rowp_blocks (h : RowP B w v ps) (hb : ∀ g, v.ownBlock = some g → w'.heap[g]? = w.heap[g]?) (hk : ∀ p ∈ ps, Keys w' p.2 p.1.c.keys) : RowP B w' v ps :=
  ⟨own_kept h.1 hb, h.2.1, hk⟩
theorem rowp_kept (h : RowP B w v ps) (k : Kept w w') : RowP B w' v ps := rowp_blocks h (fun g hg => kept_block k (rowp_cell h hg).2.1) (fun p hp => keys_kept (h.2.2 p hp) k)
theorem rowc_kept (h : RowC B w v ts) (k : Kept w w') : RowC B w' v ts := by
  obtain ⟨ps, e, h⟩ := h
  exact ⟨ps, e, rowp_kept h k⟩
theorem rowp_fr {B' : Nat} (h : RowP B w v ps) (g : Fr B' F w w') {cs : Array Value} (hF : At w F cs 48) (hT : ∀ s, w.cell? ⟨F, 0, none⟩ ≠ some (.string s)) : RowP B w' v ps := by
  refine rowp_blocks h (fun b hb => ?_) (fun p hp => keys_fr (h.2.2 p hp) g hT)
  obtain ⟨-, hlt, ⟨n, hc⟩, cs', hA⟩ := rowp_cell h hb
  refine g.2.2.2 b hlt (fun e => ?_) (.inr fun m => by rw [hc]; intro e; cases e)
  subst e
  exact at_ne hA hF (by decide) rfl
theorem rowc_fr {B' : Nat} (h : RowC B w v ts) (g : Fr B' F w w') {cs : Array Value} (hF : At w F cs 48) (hT : ∀ s, w.cell? ⟨F, 0, none⟩ ≠ some (.string s)) : RowC B w' v ts := by
  obtain ⟨ps, e, h⟩ := h
  exact ⟨ps, e, rowp_fr h g hF hT⟩
theorem own_mono {B' e size n : Nat} {xs : List Value} (h : w.ownsRow B e size v n xs) (hB : B' ≤ B) : w.ownsRow B' e size v n xs := by
  refine ⟨h.1, ?_⟩
  rcases h.2 with hn | ⟨g, cap, cur, hv, hb, rest⟩
  · exact .inl hn
  · exact .inr ⟨g, cap, cur, hv, Nat.le_trans hB hb, rest⟩
theorem rowc_mono {B' : Nat} (h : RowC B w v ts) (hB : B' ≤ B) : RowC B' w v ts := by
  obtain ⟨ps, e, h⟩ := h
  exact ⟨ps, e, own_mono h.1 hB, h.2⟩
theorem keys_grown {x : Value} {K : List ByteArray} (h : RowP B w v ps) (g : w.grownBy w' v.ownBlock) (hk : Keys w x K) : Keys w' x K :=
  keys_block (A := 0) hk (fun A hA hlt => g.block A hlt (fun e => by
    obtain ⟨s, hs⟩ := hA
    obtain ⟨-, -, ⟨n, hc⟩, -⟩ := rowp_cell h e.symm
    rw [hs] at hc
    cases hc)) g.size
theorem at_grown {X T : Nat} {cs : Array Value} (h : RowP B w v ps) (g : w.grownBy w' v.ownBlock) (hA : At w X cs T) (hT : T ≠ 38) : At w' X cs T :=
  (g.block X (at_lt hA) (fun e => by
    obtain ⟨-, -, -, cs', hB⟩ := rowp_cell h e.symm
    exact at_ne hB hA (fun e => hT e.symm) rfl)).trans hA
theorem held_grown {B' : Nat} {x : Value} {hh : List UInt8} (h : RowP B w v ps) (g : w.grownBy w' v.ownBlock) (hx : Held B' w x hh) : Held B' w' x hh :=
  ⟨own_kept hx.1 (fun b hb => g.block b (own_lt hx.1 hb).2 (fun e => by
    obtain ⟨-, -, ⟨n, hc⟩, -⟩ := rowp_cell h e.symm
    obtain ⟨-, m, hd⟩ := held_cell hx hb
    rw [hc] at hd
    cases hd)), hx.2⟩
theorem fa_grown {B' : Nat} {p : Pn} {hv kv : Value} {st : Cm} {left : Nat} {hh : List UInt8} (h : RowP B w v ps) (g : w.grownBy w' v.ownBlock) (hf : FA B' F w p hv kv st left hh) : FA B' F w' p hv kv st left hh :=
  ⟨hf.1, at_grown h g hf.2.1 (by decide), held_grown h g hf.2.2.1, keys_grown h g hf.2.2.2⟩
theorem fr_grown {B' : Nat} (h : RowP B w v ps) (g : w.grownBy w' v.ownBlock) (hf : Fr B' F u w) (hB : u.heap.size ≤ B) : Fr B' F u w' :=
  ⟨g.os.trans hf.1, g.output.trans hf.2.1, Nat.le_trans hf.2.2.1 g.size, fun k hk hn hb => (g.block k (Nat.lt_of_lt_of_le hk hf.2.2.1) (fun e => by
    have := (rowp_cell h e.symm).1
    omega)).trans (hf.2.2.2 k hk hn hb)⟩
theorem kept_grown (h : RowP B w v ps) (g : w.grownBy w' v.ownBlock) (hf : Kept u w) (hB : u.heap.size ≤ B) : Kept u w' :=
  kept_of (g.os.trans (kept_os hf)) (g.output.trans (kept_output hf)) (Nat.le_trans hf.2 g.size) (fun k hk => (g.block k (Nat.lt_of_lt_of_le hk hf.2) (fun e => by
    have := (rowp_cell h e.symm).1
    omega)).trans (kept_block hf hk))
theorem info38 : (Try.prog.info? 38).map (fun i => (i.zero, i.size, i.bytes)) = some (some (.agg #[.int .i64 0, .slice none 0 0, .int .u32 0, .int .i64 0, .string ⟨#[]⟩, .bool false, .string ⟨#[]⟩]), 7, 88) := by kernel_rfl
/- append(told, c), behind the making of c's own row -/
theorem keys_one_cell {x : Value} {K : List ByteArray} (h : Keys w x K) : x.oneCell' = true := by
  rcases h with ⟨_, h⟩ | ⟨A, cap, h, _⟩ <;> rw [h] <;> rfl
theorem add_lit (g j : Nat) : (⟨g, 0, none⟩ : Addr).add j = ⟨g, j, none⟩ := by
  rcases Nat.eq_zero_or_pos j with h0 | h0
  · subst h0; simp [Addr.add]
  · simp [Addr.add]; omega
theorem row_push (h : RowP B w v ps) (t : Td) (kv : Value) (hk : Keys w kv t.c.keys) (hB : B ≤ w.heap.size) (hl : ps.length + 1 ≤ 4294967300) :
    ∃ v' w', (Builtin.append_ #[26, 26] 26 #[v, .slice (some ⟨w.heap.size, 0, none⟩) 1 1]).run Try.prog (w.alloc (.cells #[.int .i64 t.c.kind, kv, .int .u32 t.c.flags, .int .i64 t.c.exp, .string t.body, .bool t.c.quiet, .string t.c.reply] 38)) = .ok v' w' ∧ RowP B w' v' (ps ++ [(t, kv)]) ∧ RowP B (w.alloc (.cells #[.int .i64 t.c.kind, kv, .int .u32 t.c.flags, .int .i64 t.c.exp, .string t.body, .bool t.c.quiet, .string t.c.reply] 38)) v ps ∧ (w.alloc (.cells #[.int .i64 t.c.kind, kv, .int .u32 t.c.flags, .int .i64 t.c.exp, .string t.body, .bool t.c.quiet, .string t.c.reply] 38)).grownBy w' v.ownBlock ∧ ∃ a n c, v' = .slice a n c := by
  obtain ⟨i, hi, hz, h1, h2⟩ := info_parts info38
  have hA := at_new w #[.int .i64 t.c.kind, kv, .int .u32 t.c.flags, .int .i64 t.c.exp, .string t.body, .bool t.c.quiet, .string t.c.reply] 38
  have hR := rowp_kept h (kept_alloc (kept_refl w) (.cells #[.int .i64 t.c.kind, kv, .int .u32 t.c.flags, .int .i64 t.c.exp, .string t.body, .bool t.c.quiet, .string t.c.reply] 38))
  have hK := keys_kept hk (kept_alloc (kept_refl w) (.cells #[.int .i64 t.c.kind, kv, .int .u32 t.c.flags, .int .i64 t.c.exp, .string t.body, .bool t.c.quiet, .string t.c.reply] 38))
  have hB' : B ≤ (w.alloc (.cells #[.int .i64 t.c.kind, kv, .int .u32 t.c.flags, .int .i64 t.c.exp, .string t.body, .bool t.c.quiet, .string t.c.reply] 38)).heap.size := by simp; omega
  have hk1 := keys_one_cell hk
  generalize w.alloc (.cells #[.int .i64 t.c.kind, kv, .int .u32 t.c.flags, .int .i64 t.c.exp, .string t.body, .bool t.c.quiet, .string t.c.reply] 38) = wa at *
  have hsrc : Src Try.prog 7 26 (.slice (some ⟨w.heap.size, 0, none⟩) 1 1) 1 (tdc (t, kv)) wa := Src.ofSlice wa Try.underlying26 ⟨w.heap.size, 0, none⟩ 1 1 (tdc (t, kv)) (by simp [tdc]) (fun j x hj => by
    rw [add_lit, at_cell hA j, ← hj]
    simp [tdc]) (fun x hx => by
    simp only [tdc, List.mem_cons, List.not_mem_nil, or_false] at hx
    rcases hx with rfl | rfl | rfl | rfl | rfl | rfl | rfl <;> first | rfl | exact hk1)
  obtain ⟨v', w', hr, ho, hg, hn⟩ := own_src (P := Try.prog) wa B 26 26 26 38 i (.agg #[.int .i64 0, .slice none 0 0, .int .u32 0, .int .i64 0, .string ⟨#[]⟩, .bool false, .string ⟨#[]⟩]) 7 88 Try.underlying26 hi hz h1 h2 rfl hR.1 hsrc (by unfold maxLen; omega) (by omega) hB'
  refine ⟨v', w', hr, ⟨?_, fun e => by simp at e, fun p hp => ?_⟩, hR, hg, ?_⟩
  · simpa [List.flatMap_append] using ho
  · rcases List.mem_append.1 hp with hp | hp
    · exact keys_grown hR hg (hR.2.2 p hp)
    · have : p = (t, kv) := by simpa using hp
      subst this
      exact keys_grown hR hg hK
  · rcases ho.2 with ⟨e, _⟩ | ⟨b', cap, cur, e, _⟩
    · exact ⟨_, _, _, e⟩
    · exact ⟨_, _, _, e⟩
/- append(out, row...) -/
theorem row_join {B' : Nat} {x : Value} {qs : List (Td × Value)} (h : RowP B w v ps) (hx : RowP B' w x qs) (hB : B ≤ w.heap.size) (hl : ps.length + qs.length ≤ 4294967300) :
    ∃ v' w', (Builtin.append_ #[26, 26] 26 #[v, x]).run Try.prog w = .ok v' w' ∧ RowP B w' v' (ps ++ qs) ∧ w.grownBy w' v.ownBlock := by
  obtain ⟨i, hi, hz, h1, h2⟩ := info_parts info38
  have hone : ∀ y ∈ qs.flatMap tdc, y.oneCell' = true := fun y hy => by
    obtain ⟨p, hp, hy⟩ := List.mem_flatMap.1 hy
    have hk1 := keys_one_cell (hx.2.2 p hp)
    simp only [tdc, List.mem_cons, List.not_mem_nil, or_false] at hy
    rcases hy with rfl | rfl | rfl | rfl | rfl | rfl | rfl <;> first | rfl | exact hk1
  have hsrc : Src Try.prog 7 26 x qs.length (qs.flatMap tdc) w := by
    rcases id hx.1.2 with ⟨hv, hn⟩ | ⟨g', cap, cur, hv, hB, hb, rest⟩
    · have : qs = [] := List.length_eq_zero_iff.1 hn
      subst this
      rw [hv]
      exact Src.ofNil w Try.underlying26 0
    · have hc := hx.1.cells (g := g') (by rw [hv]; rfl)
      rw [hv]
      exact Src.ofSlice w Try.underlying26 ⟨g', 0, none⟩ _ _ _ (tdc_length qs) hc hone
  obtain ⟨v', w', hr, ho, hg, hn⟩ := own_src (P := Try.prog) w B 26 26 26 38 i (.agg #[.int .i64 0, .slice none 0 0, .int .u32 0, .int .i64 0, .string ⟨#[]⟩, .bool false, .string ⟨#[]⟩]) 7 88 Try.underlying26 hi hz h1 h2 rfl h.1 hsrc (by unfold maxLen; omega) (by omega) hB
  refine ⟨v', w', hr, ⟨?_, fun e => ?_, fun p hp => ?_⟩, hg⟩
  · simpa [List.flatMap_append] using ho
  · have h3 := List.append_eq_nil_iff.1 e
    exact hn.2 ⟨h.2.1 h3.1, by rw [h3.2]; rfl⟩
  · rcases List.mem_append.1 hp with hp | hp
    · exact keys_grown h hg (h.2.2 p hp)
    · exact keys_grown h hg (hx.2.2 p hp)
end
/- What the place of the next step says of the measure. -/
def phaseV : Option Value → Nat
  | some (.func (.func 34) _ _) => 2
  | some (.func (.func 48) _ _) => 1
  | some (.func (.func 59) _ _) => 1
  | some (.func (.func 35) _ _) => 1
  | _ => 0
theorem phaseV_next (F : Nat) (p : Pn) : phaseV (some (nextV F p)) = phase p := by cases p using Pn.each <;> rfl
end Go.Proofs.Ytjlojkcdglocbaa
