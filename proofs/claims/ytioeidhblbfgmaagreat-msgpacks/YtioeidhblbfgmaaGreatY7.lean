/- The state in which a law on frames stands: some codecs of its own, each with a table of its own that is new or made, and nothing turned of what was there; what a call of the program may turn (Turn); the contract of New. No condition. -/
import Derived.Test.YtioeidhblbfgmaaGreatY6

namespace Go.Proofs.YtioeidhblbfgmaaGreat.Frm
open Go.ChangeShapes Go.WideShapes Go.ChangeAt Go.RowKit
set_option linter.unusedVariables false
set_option maxRecDepth 100000

theorem tab_block {b : Nat} {w w' : World} (h : Tab b w) (hb : w'.heap[b]? = w.heap[b]?) : Tab b w' := by
  have hc : ∀ o, w'.cell? ⟨b, o, none⟩ = w.cell? ⟨b, o, none⟩ := fun o => World.cell?_of_block (w := w) hb
  have hf : ∀ o, w'.frozen? ⟨b, o, none⟩ = w.frozen? ⟨b, o, none⟩ := fun o => World.frozen?_of_block (w := w) hb
  rcases h with ⟨h0, h1, h2, h3⟩ | ⟨h0, h1⟩
  · exact .inl ⟨(hc _).trans h0, (hc _).trans h1, fun i hi => by rw [hc]; exact h2 i hi, fun i => (hf i).trans (h3 i)⟩
  · exact .inr ⟨(hc _).trans h0, fun i hi => (hc _).trans (h1 i hi)⟩
theorem tab_cell {b : Nat} {w : World} (h : Tab b w) : ∃ x, w.cell? ⟨b, 0, none⟩ = some (.int .u32 x) := by
  rcases h with h | h
  · exact ⟨_, h.1⟩
  · exact ⟨_, h.1⟩

/- What a call on a codec may turn: its table, made at most; all else that was there stands. -/
def Turn (b : Nat) (w w' : World) : Prop :=
  w'.os = w.os ∧ w'.output = w.output ∧ w.heap.size ≤ w'.heap.size ∧ (∀ k, k < w.heap.size → k ≠ b → w'.heap[k]? = w.heap[k]?) ∧ (b < w.heap.size → Tab b w → Tab b w')
theorem Turn.refl (b : Nat) (w : World) : Turn b w w := ⟨rfl, rfl, Nat.le_refl _, fun _ _ _ => rfl, fun _ h => h⟩
theorem Turn.trans {b : Nat} {u v w : World} (h : Turn b u v) (k : Turn b v w) : Turn b u w :=
  ⟨k.1.trans h.1, k.2.1.trans h.2.1, Nat.le_trans h.2.2.1 k.2.2.1, fun i hi hn => (k.2.2.2.1 i (Nat.lt_of_lt_of_le hi h.2.2.1) hn).trans (h.2.2.2.1 i hi hn), fun hb ht => k.2.2.2.2 (Nat.lt_of_lt_of_le hb h.2.2.1) (h.2.2.2.2 hb ht)⟩
theorem turn_kept {b : Nat} {w w' : World} (h : Kept w w') : Turn b w w' :=
  ⟨kept_os h, kept_output h, h.2, fun k hk _ => kept_block h hk, fun hb ht => tab_block ht (kept_block h hb)⟩
theorem turn_below {b : Nat} {w w' : World} (h : Below w.heap.size w w') : Turn b w w' := turn_kept (kept_below h)
theorem turn_only {b : Nat} {w w' : World} (h : Only b w w') (hM : Made b w') : Turn b w w' :=
  ⟨h.1, h.2.2.1, Nat.le_of_eq h.2.2.2.1.symm, fun k _ hn => h.2.2.2.2.1 k hn, fun _ _ => .inr hM⟩
theorem turn_drew {b : Nat} {w w' : World} (h : Turn b w w') : Turn b w w'.drew := h

def Codec (c b : Nat) (w : World) : Prop := c < w.heap.size ∧ b < w.heap.size ∧ w.cell? ⟨c, 0, none⟩ = some (.pointer (some ⟨b, 0, none⟩)) ∧ Tab b w
theorem codec_ne {c b b' : Nat} {w : World} (h : Codec c b w) (ht : Tab b' w) : c ≠ b' := by
  intro e
  obtain ⟨x, hx⟩ := tab_cell ht
  have := h.2.2.1
  rw [e, hx] at this
  cases this
theorem codec_turn {c b b' : Nat} {w w' : World} (h : Codec c b w) (ht : Tab b' w) (hT : Turn b' w w') : Codec c b w' := by
  have hc := hT.2.2.2.1 c h.1 (codec_ne h ht)
  refine ⟨Nat.lt_of_lt_of_le h.1 hT.2.2.1, Nat.lt_of_lt_of_le h.2.1 hT.2.2.1, (World.cell?_of_block (w := w) hc).trans h.2.2.1, ?_⟩
  by_cases e : b = b'
  · subst e; exact hT.2.2.2.2 h.2.1 h.2.2.2
  · exact tab_block h.2.2.2 (hT.2.2.2.1 b h.2.1 e)
theorem codec_kept {c b : Nat} {w w' : World} (h : Codec c b w) (hk : Kept w w') : Codec c b w' :=
  ⟨Nat.lt_of_lt_of_le h.1 hk.2, Nat.lt_of_lt_of_le h.2.1 hk.2, (World.cell?_of_block (w := w) (kept_block hk h.1)).trans h.2.2.1, tab_block h.2.2.2 (kept_block hk h.2.1)⟩

/- A frame in memory: four cells of a block. -/
def Box (X : Nat) (k f t : Int) (s : ByteArray) (w : World) : Prop :=
  X < w.heap.size ∧ w.cell? ⟨X, 0, none⟩ = some (.int .u8 k) ∧ w.cell? ⟨X, 1, none⟩ = some (.int .u8 f) ∧ w.cell? ⟨X, 2, none⟩ = some (.int .u8 t) ∧ w.cell? ⟨X, 3, none⟩ = some (.string s)
theorem box_ne {X b : Nat} {k f t : Int} {s : ByteArray} {w : World} (h : Box X k f t s w) (ht : Tab b w) : X ≠ b := by
  intro e
  obtain ⟨x, hx⟩ := tab_cell ht
  have := h.2.1
  rw [e, hx] at this
  cases this
theorem box_block {X : Nat} {k f t : Int} {s : ByteArray} {w w' : World} (h : Box X k f t s w) (hs : w.heap.size ≤ w'.heap.size) (hb : w'.heap[X]? = w.heap[X]?) : Box X k f t s w' :=
  ⟨Nat.lt_of_lt_of_le h.1 hs, (World.cell?_of_block (w := w) hb).trans h.2.1, (World.cell?_of_block (w := w) hb).trans h.2.2.1, (World.cell?_of_block (w := w) hb).trans h.2.2.2.1, (World.cell?_of_block (w := w) hb).trans h.2.2.2.2⟩
theorem box_turn {X b : Nat} {k f t : Int} {s : ByteArray} {w w' : World} (h : Box X k f t s w) (ht : Tab b w) (hT : Turn b w w') : Box X k f t s w' :=
  box_block h hT.2.2.1 (hT.2.2.2.1 X h.1 (box_ne h ht))
theorem box_kept {X : Nat} {k f t : Int} {s : ByteArray} {w w' : World} (h : Box X k f t s w) (hk : Kept w w') : Box X k f t s w' :=
  box_block h hk.2 (kept_block hk h.1)
theorem box_new (w : World) (k f t : Int) (s : ByteArray) (o : Nat × Nat) : Box w.heap.size k f t s (w.alloc (.cells #[.int .u8 k, .int .u8 f, .int .u8 t, .string s] 46 o)) := by
  have hb := alloc_block w (.cells #[.int .u8 k, .int .u8 f, .int .u8 t, .string s] 46 o)
  refine ⟨by simp, ?_, ?_, ?_, ?_⟩ <;> (unfold World.cell?; rw [hb]; rfl)

theorem New_any (w : World) :
    Calls Tryz.prog 18 #[] w fun e w' => e = .returned (.pointer (some ⟨w.heap.size + 1, 0, none⟩)) ∧ Below w.heap.size w w' ∧ Codec (w.heap.size + 1) w.heap.size w' := by
  go_enter Tryz.func18, Tryz.ntmps18
  go_wp2_with fail
  refine (new_any w).mono ?_
  rintro e w1 ⟨rfl, c, hw1, hF⟩
  have hz : w1.heap.size = w.heap.size + 1 := by rw [hw1]; simp
  have HB : Hid (Below w.heap.size w w1) := by rw [hw1]; exact (Below.refl _ w).alloc (Nat.le_refl _) _
  have HF : Hid (Fresh w.heap.size w1) := hF
  clear hF hw1
  have HW : Hid (w.heap.size + 1 = w1.heap.size) := hz.symm
  clear hz
  generalize hbb : w.heap.size = b at *
  go_wp2_with fail
  go_ret
  have hT : Tab b (w1.alloc (.cells #[.pointer (some ⟨b, 0, none⟩)] 97)) := tab_block (.inl HF.out) (Below.heap_alloc w1 _ b (by have := HW.out; omega))
  rw [hbb]
  refine ⟨by rw [HW.out]; rfl, HB.out.alloc (by have := HW.out; omega) _, ?_, ?_, ?_, hT⟩
  · simp; have := HW.out; omega
  · simp; have := HW.out; omega
  · rw [HW.out]
    unfold World.cell?; rw [alloc_block]; rfl

def St (W : World) (cs : List (Nat × Nat)) (w : World) : Prop := Kept W w ∧ ∀ c b, (c, b) ∈ cs → W.heap.size ≤ b ∧ Codec c b w
theorem St.start (w : World) : St w [] w := ⟨kept_refl w, fun c b h => by cases h⟩
theorem st_kept {W : World} {cs : List (Nat × Nat)} {w w' : World} (h : St W cs w) (g : Kept w w') : St W cs w' :=
  ⟨kept_trans h.1 g, fun c b hb => ⟨(h.2 c b hb).1, codec_kept (h.2 c b hb).2 g⟩⟩
theorem st_below {W : World} {cs : List (Nat × Nat)} {w w' : World} (h : St W cs w) (g : Below w.heap.size w w') : St W cs w' := st_kept h (kept_below g)
theorem kept_turn {W w w' : World} {b : Nat} (h : Kept W w) (hb : W.heap.size ≤ b) (hT : Turn b w w') : Kept W w' :=
  kept_of (hT.1.trans (kept_os h)) (hT.2.1.trans (kept_output h)) (Nat.le_trans h.2 hT.2.2.1) (fun i hi => (hT.2.2.2.1 i (Nat.lt_of_lt_of_le hi h.2) (by omega)).trans (kept_block h hi))
theorem st_turn {W : World} {cs : List (Nat × Nat)} {w w' : World} {c b : Nat} (h : St W cs w) (hm : (c, b) ∈ cs) (hT : Turn b w w') : St W cs w' :=
  ⟨kept_turn h.1 (h.2 c b hm).1 hT, fun c' b' hb => ⟨(h.2 c' b' hb).1, codec_turn (h.2 c' b' hb).2 (h.2 c b hm).2.2.2.2 hT⟩⟩
theorem New_in (W : World) (cs : List (Nat × Nat)) (w : World) (h : St W cs w) :
    Calls Tryz.prog 18 #[] w fun e w' => ∃ c b, e = .returned (.pointer (some ⟨c, 0, none⟩)) ∧ St W ((c, b) :: cs) w' ∧ Kept w w' := by
  refine (New_any w).mono ?_
  rintro e w1 ⟨rfl, hb, hC⟩
  have hS := st_below h hb
  refine ⟨_, w.heap.size, rfl, ⟨hS.1, fun c b hm => ?_⟩, kept_below hb⟩
  rcases List.mem_cons.1 hm with e | hm
  · cases e; exact ⟨h.1.2, hC⟩
  · exact hS.2 c b hm
end Go.Proofs.YtioeidhblbfgmaaGreat.Frm
