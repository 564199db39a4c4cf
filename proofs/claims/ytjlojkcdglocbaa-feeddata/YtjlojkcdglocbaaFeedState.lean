/- A feed in memory: ten cells, the bytes that it holds, the keys of the command whose data it reads; and what its calls may turn (Fr): the feed itself and rows of bytes that are the call's own. No condition. -/
import Derived.Test.YtjlojkcdglocbaaFeedRow
namespace Go.Proofs.Ytjlojkcdglocbaa
open Go.ChangeShapes Go.WideShapes Go.ChangeAt Go.RowKit
set_option linter.unusedVariables false
set_option linter.unusedSimpArgs false

def nextV (F : Nat) : Pn → Value
  | (false, false, false) => .func (.func 17) #[.pointer (some ⟨F, 0, none⟩)] #[]
  | (false, false, true) => .func (.func 34) #[.pointer (some ⟨F, 0, none⟩)] #[]
  | (false, true, false) => .func (.func 48) #[.pointer (some ⟨F, 0, none⟩)] #[]
  | (false, true, true) => .func (.func 59) #[.pointer (some ⟨F, 0, none⟩)] #[]
  | (true, false, false) => .func (.func 58) #[.pointer (some ⟨F, 0, none⟩)] #[]
  | (true, false, true) => .func (.func 35) #[.pointer (some ⟨F, 0, none⟩)] #[]
  | (true, true, false) => .func (.func 28) #[.pointer (some ⟨F, 0, none⟩)] #[]
  | (true, true, true) => .nilFunc
def Held (B : Nat) (w : World) (v : Value) (h : List UInt8) : Prop := w.ownsRow B 5 1 v h.length (bc h) ∧ (h = [] → v = .slice none 0 0)
theorem held_nil (B : Nat) (w : World) : Held B w (.slice none 0 0) [] := ⟨World.ownsRow_nil w B 5 1, fun _ => rfl⟩
/- What may have turned: the block F, and rows of bytes from B on. -/
def Fr (B F : Nat) (w w' : World) : Prop :=
  w'.os = w.os ∧ w'.output = w.output ∧ w.heap.size ≤ w'.heap.size ∧ ∀ k, k < w.heap.size → k ≠ F → (k < B ∨ ∀ n, w.cell? ⟨k, 0, none⟩ ≠ some (.int .u8 n)) → w'.heap[k]? = w.heap[k]?
section
variable {B F : Nat} {u w w' : World}
theorem fr_refl (B F : Nat) (w : World) : Fr B F w w := ⟨rfl, rfl, Nat.le_refl _, fun _ _ _ _ => rfl⟩
theorem fr_kept (h : Kept w w') : Fr B F w w' := ⟨kept_os h, kept_output h, h.2, fun k hk _ _ => kept_block h hk⟩
theorem fr_trans (h : Fr B F u w) (k : Fr B F w w') : Fr B F u w' := by
  refine ⟨k.1.trans h.1, k.2.1.trans h.2.1, Nat.le_trans h.2.2.1 k.2.2.1, fun i hi hn hb => ?_⟩
  have h1 := h.2.2.2 i hi hn hb
  refine (k.2.2.2 i (Nat.lt_of_lt_of_le hi h.2.2.1) hn ?_).trans h1
  rcases hb with hb | hb
  · exact .inl hb
  · refine .inr fun n => ?_
    rw [World.cell?_of_block (w := u) (a := ⟨i, 0, none⟩) h1]
    exact hb n
theorem fr_set (h : Fr B F u w) (o : Nat) (v : Value) : Fr B F u (w.setCell ⟨F, o, none⟩ v) :=
  ⟨h.1, h.2.1, by simpa [World.setCell] using h.2.2.1, fun k hk hn hb => (Below.heap_setCell _ _ _ _ hn).trans (h.2.2.2 k hk hn hb)⟩
theorem fr_new {X : Nat} (h : Fr B F u w) (hX : u.heap.size ≤ X) (o : Nat) (v : Value) : Fr B F u (w.setCell ⟨X, o, none⟩ v) :=
  ⟨h.1, h.2.1, by simpa [World.setCell] using h.2.2.1, fun k hk hn hb => (Below.heap_setCell _ _ _ _ (by show k ≠ X; omega)).trans (h.2.2.2 k hk hn hb)⟩
theorem fr_alloc (h : Fr B F u w) (o : Obj) : Fr B F u (w.alloc o) := fr_trans h (fr_kept (kept_alloc (kept_refl w) o))
theorem fr_drew (h : Fr B F u w) : Fr B F u w.drew := h
theorem fr_set7 {X : Nat} (h : Fr B F u w) (hX : u.heap.size ≤ X) (a0 a1 a2 a3 a4 a5 a6 : Value) : Fr B F u (set7 w X a0 a1 a2 a3 a4 a5 a6) :=
  fr_new (fr_new (fr_new (fr_new (fr_new (fr_new (fr_new h hX 0 a0) hX 1 a1) hX 2 a2) hX 3 a3) hX 4 a4) hX 5 a5) hX 6 a6
/- What was there ahead of it all stands. -/
theorem kept_fr {W : World} (h : Kept W w) (hB : W.heap.size = B) (hF : B ≤ F) (g : Fr B F w w') : Kept W w' :=
  kept_of (g.1.trans (kept_os h)) (g.2.1.trans (kept_output h)) (Nat.le_trans h.2 g.2.2.1) (fun i hi => (g.2.2.2 i (Nat.lt_of_lt_of_le hi h.2) (by omega) (.inl (by omega))).trans (kept_block h hi))
theorem at_fr {X T : Nat} {cs : Array Value} (h : At w X cs T) (g : Fr B F w w') (hn : X ≠ F) (h0 : ∀ n, cs[0]? ≠ some (.int .u8 n)) : At w' X cs T :=
  (g.2.2.2 X (at_lt h) hn (.inr fun n => by rw [at_cell h 0]; exact h0 n)).trans h
theorem keys_block {A : Nat} {v : Value} {K : List ByteArray} (h : Keys w v K) (hk : ∀ A, (∃ s, w.cell? ⟨A, 0, none⟩ = some (.string s)) → A < w.heap.size → w'.heap[A]? = w.heap[A]?) (hs : w.heap.size ≤ w'.heap.size) : Keys w' v K := by
  rcases h with h | ⟨A, cap, hv, hA, hc⟩
  · exact .inl h
  · refine .inr ⟨A, cap, hv, Nat.lt_of_lt_of_le hA hs, fun i hi => ?_⟩
    rw [← hc i hi]
    exact World.cell?_of_block (w := w) (hk A ⟨_, hc 0 (by omega)⟩ hA)
theorem keys_fr {v : Value} {K : List ByteArray} (h : Keys w v K) (g : Fr B F w w') (hF : ∀ s, w.cell? ⟨F, 0, none⟩ ≠ some (.string s)) : Keys w' v K :=
  keys_block (A := 0) h (fun A hA hlt => g.2.2.2 A hlt (fun e => by obtain ⟨s, hs⟩ := hA; rw [e] at hs; exact hF s hs) (.inr fun n e => by obtain ⟨s, hs⟩ := hA; rw [hs] at e; cases e)) g.2.2.1
theorem keys_setc {v x : Value} {K : List ByteArray} {X o : Nat} (h : Keys w v K) (hX : ∀ s, w.cell? ⟨X, 0, none⟩ ≠ some (.string s)) : Keys (w.setCell ⟨X, o, none⟩ x) v K :=
  keys_block (A := 0) h (fun A hA hlt => Below.heap_setCell _ _ _ _ (by show A ≠ X; rintro rfl; obtain ⟨s, hs⟩ := hA; exact hX s hs)) (by simp [World.setCell])
theorem own_kept {e size n : Nat} {v : Value} {xs : List Value} (h : w.ownsRow B e size v n xs) (k : ∀ g, v.ownBlock = some g → w'.heap[g]? = w.heap[g]?) : w'.ownsRow B e size v n xs := by
  refine ⟨h.1, ?_⟩
  rcases h.2 with hn | ⟨g, cap, cur, rfl, hb, hg, rest⟩
  · exact .inl hn
  · exact .inr ⟨g, cap, cur, rfl, hb, (k g rfl).trans hg, rest⟩
theorem own_lt {e size n : Nat} {v : Value} {xs : List Value} (h : w.ownsRow B e size v n xs) {g : Nat} (hg : v.ownBlock = some g) : B ≤ g ∧ g < w.heap.size := h.lt g hg
theorem held_kept {v : Value} {h : List UInt8} (g : Held B w v h) (k : Kept w w') : Held B w' v h := ⟨own_kept g.1 (fun b hb => kept_block k (own_lt g.1 hb).2), g.2⟩
theorem held_set {v x : Value} {h : List UInt8} {X T o : Nat} {cs : Array Value} (g : Held B w v h) (hA : At w X cs T) (hT : T ≠ 5) : Held B (w.setCell ⟨X, o, none⟩ x) v h := by
  refine ⟨own_kept g.1 (fun b hb => Below.heap_setCell _ _ _ _ (?_ : b ≠ X)), g.2⟩
  rcases g.1.2 with ⟨hv, _⟩ | ⟨b', cap, cur, hv, _, hg, _⟩
  · rw [hv] at hb; cases hb
  · rw [hv] at hb
    have e : b' = b := by simpa [Value.ownBlock] using hb
    subst e
    exact fun e => at_ne (w := w) (X := b') (Y := X) hg hA (fun e => hT e.symm) e
theorem held_cell {v : Value} {h : List UInt8} (g : Held B w v h) {b : Nat} (hb : v.ownBlock = some b) : B ≤ b ∧ ∃ n, w.cell? ⟨b, 0, none⟩ = some (.int .u8 n) := by
  have hne : h ≠ [] := fun e => by rw [g.2 e] at hb; cases hb
  have hp : 0 < h.length := List.length_pos_iff.2 hne
  rcases g.1.2 with ⟨hv, _⟩ | ⟨b', cap, cur, hv, hB, hg, _⟩
  · rw [hv] at hb; cases hb
  · rw [hv] at hb
    have e : b' = b := by simpa [Value.ownBlock] using hb
    subst e
    exact ⟨hB, (h[0].toNat : Int), (own_cell g.1 hv 0 (by rw [bc_length]; exact hp)).trans (bc_get h 0 hp)⟩
theorem held_text {v : Value} {h : List UInt8} (g : Held B w v h) : ∃ a cap, v = .slice a h.length cap ∧ (convert 43 9 (.slice a h.length cap)).run Try.prog w = .ok (.string (ba h)) w := by
  by_cases h0 : h = []
  · subst h0
    exact ⟨none, 0, g.2 rfl, nil_text w⟩
  · have hp : 0 < h.length := List.length_pos_iff.2 h0
    rcases g.1.2 with ⟨hv, hn⟩ | ⟨b', cap, cur, hv, hB, hg, _⟩
    · omega
    · refine ⟨_, cap, hv, row_text (fun j hj => ?_) rfl cap⟩
      rw [own_cell g.1 hv j (by rw [bc_length]; exact hj), bc_get h j hj]
/- append(f.held, s...) -/
theorem info5 : (Try.prog.info? 5).map (fun i => (i.zero, i.size, i.bytes)) = some (some (.int .u8 0), 1, 1) := by kernel_rfl
theorem held_more {v : Value} {h : List UInt8} (g : Held B w v h) (hB : B ≤ w.heap.size) (s : ByteArray) (hs : h.length + s.size ≤ 4294967296) :
    ∃ v' w', (Builtin.append_ #[43, 9] 43 #[v, .string s]).run Try.prog w = .ok v' w' ∧ Held B w' v' (h ++ s.data.toList) ∧ Fr B F w w' ∧ ∀ {X T : Nat} {cs : Array Value}, At w X cs T → T ≠ 5 → At w' X cs T := by
  obtain ⟨i, hi, hz, h1, h2⟩ := info_parts info5
  have hl := size_list s
  obtain ⟨v', w', hr, ho, hg, hn⟩ := own_src (P := Try.prog) w B 43 9 43 5 i (.int .u8 0) 1 1 Try.underlying43 hi hz h1 h2 rfl g.1 (Src.ofString w Try.underlying9 s) (by unfold maxLen; omega) (by omega) hB
  refine ⟨v', w', hr, ⟨?_, fun e => ?_⟩, ⟨hg.os, hg.output, hg.size, fun k hk hn hb => hg.block k hk (fun e => ?_)⟩, fun {X T cs} hA hT => (hg.block X (at_lt hA) (fun e => ?_)).trans hA⟩
  · rw [List.length_append, ← hl, bc_append]; exact ho
  · have h3 := List.append_eq_nil_iff.1 e
    exact hn.2 ⟨g.2 h3.1, by rw [hl, h3.2]; rfl⟩
  · obtain ⟨hBk, n, hc⟩ := held_cell g e.symm
    rcases hb with hb | hb
    · omega
    · exact hb n hc
  · rcases g.1.2 with ⟨hv, _⟩ | ⟨b', cap, cur, hv, _, hgb, _⟩
    · rw [hv] at e; cases e
    · rw [hv] at e
      have e : b' = X := by simpa [Value.ownBlock] using e.symm
      subst e
      exact at_ne (w := w) hgb hA (fun e => hT e.symm) rfl
end
/- The feed. -/
abbrev fcells (F : Nat) (p : Pn) (hv kv : Value) (st : Cm) (left : Nat) : Array Value := #[nextV F p, hv, .int .i64 st.kind, kv, .int .u32 st.flags, .int .i64 st.exp, .string ⟨#[]⟩, .bool st.quiet, .string st.reply, .int .i64 (left : Int)]
def FA (B F : Nat) (w : World) (p : Pn) (hv kv : Value) (st : Cm) (left : Nat) (h : List UInt8) : Prop :=
  B ≤ F ∧ At w F (fcells F p hv kv st left) 48 ∧ Held B w hv h ∧ Keys w kv st.keys
def FeedAt (B : Nat) (w : World) (F : Nat) (f : Fd) : Prop := ∃ hv kv, FA B F w f.p hv kv f.set f.left f.h
theorem next_text (F : Nat) (p : Pn) (s : ByteArray) : nextV F p ≠ .string s := by cases p using Pn.each <;> simp [nextV]
theorem next_u8 (F : Nat) (p : Pn) (n : Int) : nextV F p ≠ .int .u8 n := by cases p using Pn.each <;> simp [nextV]
section
variable {B F : Nat} {w w' : World} {p : Pn} {hv kv : Value} {st : Cm} {left : Nat} {h : List UInt8}
theorem fa_text (g : FA B F w p hv kv st left h) (s : ByteArray) : w.cell? ⟨F, 0, none⟩ ≠ some (.string s) := by
  rw [at_cell g.2.1 0]
  intro e
  injection e with e
  exact next_text F p s e
theorem at_cells10 {X T : Nat} {a0 a1 a2 a3 a4 a5 a6 a7 a8 a9 : Value} (h : At w X #[a0, a1, a2, a3, a4, a5, a6, a7, a8, a9] T) : w.cell? ⟨X, 0, none⟩ = some a0 ∧ w.cell? ⟨X, 1, none⟩ = some a1 ∧ w.cell? ⟨X, 2, none⟩ = some a2 ∧ w.cell? ⟨X, 3, none⟩ = some a3 ∧ w.cell? ⟨X, 4, none⟩ = some a4 ∧ w.cell? ⟨X, 5, none⟩ = some a5 ∧ w.cell? ⟨X, 6, none⟩ = some a6 ∧ w.cell? ⟨X, 7, none⟩ = some a7 ∧ w.cell? ⟨X, 8, none⟩ = some a8 ∧ w.cell? ⟨X, 9, none⟩ = some a9 ∧ ∀ j, w.frozen? ⟨X, j, none⟩ = false :=
  ⟨at_cell h 0, at_cell h 1, at_cell h 2, at_cell h 3, at_cell h 4, at_cell h 5, at_cell h 6, at_cell h 7, at_cell h 8, at_cell h 9, at_frozen h⟩
theorem fa_kept (g : FA B F w p hv kv st left h) (k : Kept w w') : FA B F w' p hv kv st left h := ⟨g.1, at_kept g.2.1 k, held_kept g.2.2.1 k, keys_kept g.2.2.2 k⟩
theorem fa_alloc (g : FA B F w p hv kv st left h) (o : Obj) : FA B F (w.alloc o) p hv kv st left h := fa_kept g (kept_alloc (kept_refl w) o)
theorem fa_drew (g : FA B F w p hv kv st left h) : FA B F w.drew p hv kv st left h := g
theorem fa_next (g : FA B F w p hv kv st left h) (q : Pn) : FA B F (w.setCell ⟨F, 0, none⟩ (nextV F q)) q hv kv st left h :=
  ⟨g.1, at_set g.2.1 0 (nextV F q), held_set g.2.2.1 g.2.1 (by decide), keys_setc g.2.2.2 (fa_text g)⟩
theorem fa_drop (g : FA B F w p hv kv st left h) : FA B F (w.setCell ⟨F, 1, none⟩ (.slice none 0 0)) p (.slice none 0 0) kv st left [] :=
  ⟨g.1, at_set g.2.1 1 (.slice none 0 0), held_nil _ _, keys_setc g.2.2.2 (fa_text g)⟩
theorem fa_left (g : FA B F w p hv kv st left h) (n : Nat) : FA B F (w.setCell ⟨F, 9, none⟩ (.int .i64 (n : Int))) p hv kv st n h :=
  ⟨g.1, at_set g.2.1 9 (.int .i64 (n : Int)), held_set g.2.2.1 g.2.1 (by decide), keys_setc g.2.2.2 (fa_text g)⟩
/- another command's seven cells stored -/
def setF7 (w : World) (F : Nat) (a0 a1 a2 a3 a4 a5 a6 : Value) : World := ((((((w.setCell ⟨F, 2, none⟩ a0).setCell ⟨F, 3, none⟩ a1).setCell ⟨F, 4, none⟩ a2).setCell ⟨F, 5, none⟩ a3).setCell ⟨F, 6, none⟩ a4).setCell ⟨F, 7, none⟩ a5).setCell ⟨F, 8, none⟩ a6
theorem at_setF7 {T : Nat} {v0 v1 v2 v3 v4 v5 v6 v7 v8 v9 : Value} (h : At w F #[v0, v1, v2, v3, v4, v5, v6, v7, v8, v9] T) (a0 a1 a2 a3 a4 a5 a6 : Value) : At (setF7 w F a0 a1 a2 a3 a4 a5 a6) F #[v0, v1, a0, a1, a2, a3, a4, a5, a6, v9] T := by
  have h0 : At (w.setCell ⟨F, 2, none⟩ a0) F #[v0, v1, a0, v3, v4, v5, v6, v7, v8, v9] T := at_set h 2 a0
  have h1 : At ((w.setCell ⟨F, 2, none⟩ a0).setCell ⟨F, 3, none⟩ a1) F #[v0, v1, a0, a1, v4, v5, v6, v7, v8, v9] T := at_set h0 3 a1
  have h2 : At (((w.setCell ⟨F, 2, none⟩ a0).setCell ⟨F, 3, none⟩ a1).setCell ⟨F, 4, none⟩ a2) F #[v0, v1, a0, a1, a2, v5, v6, v7, v8, v9] T := at_set h1 4 a2
  have h3 : At ((((w.setCell ⟨F, 2, none⟩ a0).setCell ⟨F, 3, none⟩ a1).setCell ⟨F, 4, none⟩ a2).setCell ⟨F, 5, none⟩ a3) F #[v0, v1, a0, a1, a2, a3, v6, v7, v8, v9] T := at_set h2 5 a3
  have h4 : At (((((w.setCell ⟨F, 2, none⟩ a0).setCell ⟨F, 3, none⟩ a1).setCell ⟨F, 4, none⟩ a2).setCell ⟨F, 5, none⟩ a3).setCell ⟨F, 6, none⟩ a4) F #[v0, v1, a0, a1, a2, a3, a4, v7, v8, v9] T := at_set h3 6 a4
  have h5 : At ((((((w.setCell ⟨F, 2, none⟩ a0).setCell ⟨F, 3, none⟩ a1).setCell ⟨F, 4, none⟩ a2).setCell ⟨F, 5, none⟩ a3).setCell ⟨F, 6, none⟩ a4).setCell ⟨F, 7, none⟩ a5) F #[v0, v1, a0, a1, a2, a3, a4, a5, v8, v9] T := at_set h4 7 a5
  exact at_set h5 8 a6
theorem fr_setF7 {u : World} (g : Fr B F u w) (a0 a1 a2 a3 a4 a5 a6 : Value) : Fr B F u (setF7 w F a0 a1 a2 a3 a4 a5 a6) :=
  fr_set (fr_set (fr_set (fr_set (fr_set (fr_set (fr_set g _ _) _ _) _ _) _ _) _ _) _ _) _ _
theorem heap_setF7 (a0 a1 a2 a3 a4 a5 a6 : Value) {k : Nat} (hk : k ≠ F) : (setF7 w F a0 a1 a2 a3 a4 a5 a6).heap[k]? = w.heap[k]? := by
  unfold setF7
  iterate 7 rw [Below.heap_setCell _ _ _ _ (by exact hk)]
theorem size_setF7 (a0 a1 a2 a3 a4 a5 a6 : Value) : (setF7 w F a0 a1 a2 a3 a4 a5 a6).heap.size = w.heap.size := by simp [setF7, World.setCell]
theorem fa_put (g : FA B F w p hv kv st left h) (c : Cm) (kc : Value) (hk : Keys w kc c.keys) : FA B F (setF7 w F (.int .i64 c.kind) kc (.int .u32 c.flags) (.int .i64 c.exp) (.string ⟨#[]⟩) (.bool c.quiet) (.string c.reply)) p hv kc c left h := by
  refine ⟨g.1, at_setF7 g.2.1 _ _ _ _ _ _ _, ⟨own_kept g.2.2.1.1 (fun b hb => heap_setF7 _ _ _ _ _ _ _ ?_), g.2.2.1.2⟩, keys_block (A := 0) hk (fun A hA hlt => heap_setF7 _ _ _ _ _ _ _ ?_) (by rw [size_setF7]; exact Nat.le_refl _)⟩
  · rintro rfl
    obtain ⟨-, n, hc⟩ := held_cell g.2.2.1 hb
    rw [at_cell g.2.1 0] at hc
    injection hc with hc
    exact next_u8 _ _ _ hc
  · rintro rfl
    obtain ⟨s, hs⟩ := hA
    exact fa_text g s hs
/- append(f.held, s...), stored -/
theorem fa_more (g : FA B F w p hv kv st left h) (s : ByteArray) (hs : h.length + s.size ≤ 4294967296) :
    ∃ v' w', (Builtin.append_ #[43, 9] 43 #[hv, .string s]).run Try.prog w = .ok v' w' ∧ At w' F (fcells F p hv kv st left) 48 ∧ FA B F (w'.setCell ⟨F, 1, none⟩ v') p v' kv st left (h ++ s.data.toList) ∧ Fr B F w w' ∧ (∀ {X T : Nat} {cs : Array Value}, At w X cs T → T ≠ 5 → At w' X cs T) ∧ ∃ a n c, v' = .slice a n c := by
  obtain ⟨v', w', hr, hH, hf, hk⟩ := held_more (F := F) g.2.2.1 (Nat.le_trans g.1 (Nat.le_of_lt (at_lt g.2.1))) s hs
  have hA := hk g.2.1 (by decide)
  have hK : Keys w' kv st.keys := keys_fr g.2.2.2 hf (fa_text g)
  have hX : ∀ s, w'.cell? ⟨F, 0, none⟩ ≠ some (.string s) := fun s e => by
    rw [at_cell hA 0] at e
    injection e with e
    exact next_text F p s e
  refine ⟨v', w', hr, hA, ⟨g.1, at_set hA 1 v', held_set hH hA (by decide), keys_setc hK hX⟩, hf, hk, ?_⟩
  rcases hH.1.2 with ⟨e, _⟩ | ⟨b', cap, cur, e, _⟩
  · exact ⟨_, _, _, e⟩
  · exact ⟨_, _, _, e⟩
end
end Go.Proofs.Ytjlojkcdglocbaa
