/- The state in which a law on sums stands: some tables of its own, each new or made, and nothing turned of what was there; each call of the program keeps it. A text has at most as many bytes as a text may have. -/
import Derived.Test.YthgjfnejcoadoaaFixed
import Derived.Test.YthgjfnejcoadoaaFlat
namespace Go.Proofs.Ythgjfnejcoadoaa
open Go.ChangeShapes Go.WideShapes Go.ChangeAt Go.RowKit
set_option linter.unusedVariables false

theorem tab_block {b : Nat} {w w' : World} (h : Tab b w) (hb : w'.heap[b]? = w.heap[b]?) : Tab b w' := by
  have hc : ∀ o, w'.cell? ⟨b, o, none⟩ = w.cell? ⟨b, o, none⟩ := fun o => World.cell?_of_block (w := w) hb
  have hf : ∀ o, w'.frozen? ⟨b, o, none⟩ = w.frozen? ⟨b, o, none⟩ := fun o => World.frozen?_of_block (w := w) hb
  rcases h with ⟨h0, h1, h2, h3⟩ | ⟨h0, h1⟩
  · exact .inl ⟨(hc _).trans h0, (hc _).trans h1, fun i hi => by rw [hc]; exact h2 i hi, fun i => (hf i).trans (h3 i)⟩
  · exact .inr ⟨(hc _).trans h0, fun i hi => (hc _).trans (h1 i hi)⟩
theorem only_kept {b : Nat} {W w w' : World} (h : Only b w w') (hb : W.heap.size ≤ b) (g : Kept W w) : Kept W w' :=
  kept_of (h.1.trans (kept_os g)) (h.2.2.1.trans (kept_output g)) (by have := h.2.2.2.1; have := g.2; omega) (fun i hi => (h.2.2.2.2.1 i (by omega)).trans (kept_block g hi))

def St (W : World) (bs : List Nat) (w : World) : Prop := Kept W w ∧ ∀ b, b ∈ bs → W.heap.size ≤ b ∧ b < w.heap.size ∧ Tab b w
/- What is kept beside the tables. -/
def Rest (bs : List Nat) (w w' : World) : Prop := w.heap.size ≤ w'.heap.size ∧ ∀ k, k < w.heap.size → k ∉ bs → w'.heap[k]? = w.heap[k]?
theorem St.start (w : World) : St w [] w := ⟨kept_refl w, fun b h => by cases h⟩
theorem st_kept {W : World} {bs : List Nat} {w w' : World} (h : St W bs w) (g : Kept w w') : St W bs w' ∧ Rest bs w w' := by
  refine ⟨⟨kept_trans h.1 g, fun b hb => ?_⟩, g.2, fun k hk _ => kept_block g hk⟩
  obtain ⟨h1, h2, h3⟩ := h.2 b hb
  exact ⟨h1, Nat.lt_of_lt_of_le h2 g.2, tab_block h3 (kept_block g h2)⟩
theorem st_only {W : World} {bs : List Nat} {w w' : World} {b : Nat} (h : St W bs w) (hb : b ∈ bs) (hO : Only b w w') (hM : Made b w') : St W bs w' ∧ Rest bs w w' := by
  obtain ⟨h1, h2, h3⟩ := h.2 b hb
  have hz := hO.2.2.2.1
  refine ⟨⟨only_kept hO h1 h.1, fun c hc => ?_⟩, by omega, fun k hk hn => hO.2.2.2.2.1 k (fun e => hn (e ▸ hb))⟩
  obtain ⟨k1, k2, k3⟩ := h.2 c hc
  refine ⟨k1, by omega, ?_⟩
  by_cases e : c = b
  · subst e; exact .inr hM
  · exact tab_block k3 (hO.2.2.2.2.1 c e)

theorem new_in (W : World) (bs : List Nat) (w : World) (h : St W bs w) :
    Calls Try.prog 9 #[] w fun e w' => ∃ b, e = .returned (.pointer (some ⟨b, 0, none⟩)) ∧ b ∉ bs ∧ St W (b :: bs) w' ∧ Rest (b :: bs) w w' ∧ w'.heap.size = w.heap.size + 1 := by
  refine (new_any w).mono ?_
  rintro e w1 ⟨rfl, c, rfl, hF⟩
  have g : Kept w (w.alloc (.cells c 49)) := kept_grown ((Grown.refl w).alloc _ _)
  obtain ⟨hS, hR⟩ := st_kept h g
  have hz : (w.alloc (.cells c 49)).heap.size = w.heap.size + 1 := by simp
  refine ⟨w.heap.size, rfl, fun hm => by have := (h.2 _ hm).2.1; omega, ⟨hS.1, fun b hb => ?_⟩, ⟨hR.1, fun k hk hn => kept_block g hk⟩, hz⟩
  rcases List.mem_cons.1 hb with rfl | hb
  · exact ⟨h.1.2, by omega, .inl hF⟩
  · exact hS.2 b hb
theorem sum_in (W : World) (bs : List Nat) (b : Nat) (hb : b ∈ bs) (s : ByteArray) (hs : s.size ≤ maxLen) (w : World) (h : St W bs w) :
    Calls Try.prog 10 #[.pointer (some ⟨b, 0, none⟩), .string s] w fun e w' => e = .returned (.int .u32 (more 0 s.data.toList)) ∧ St W bs w' ∧ Rest bs w w' :=
  (sum_any b s hs w (h.2 b hb).2.2).mono fun _ _ ⟨he, hO, hM⟩ => ⟨he, st_only h hb hO hM⟩
theorem more_in (W : World) (bs : List Nat) (b : Nat) (hb : b ∈ bs) (x : Nat) (hx : x < 4294967296) (s : ByteArray) (hs : s.size ≤ maxLen) (w : World) (h : St W bs w) :
    Calls Try.prog 14 #[.pointer (some ⟨b, 0, none⟩), .int .u32 x, .string s] w fun e w' => e = .returned (.int .u32 (more x s.data.toList)) ∧ St W bs w' ∧ Rest bs w w' :=
  (more_any b x hx s hs w (h.2 b hb).2.2).mono fun _ _ ⟨he, hO, hM⟩ => ⟨he, st_only h hb hO hM⟩
theorem entry_in (W : World) (bs : List Nat) (b : Nat) (hb : b ∈ bs) (i : Int) (w : World) (h : St W bs w) :
    Calls Try.prog 12 #[.pointer (some ⟨b, 0, none⟩), .int .i64 i] w fun e w' => e = .returned (.int .u32 (eig (lowest i))) ∧ St W bs w' ∧ Rest bs w w' :=
  (entry_any b i w (h.2 b hb).2.2).mono fun _ _ ⟨he, hO, hM⟩ => ⟨he, st_only h hb hO hM⟩
theorem fixed_in (W : World) (bs : List Nat) (w : World) (h : St W bs w) :
    Calls Try.prog 8 #[] w fun e w' => e = .returned (.bool true) ∧ St W bs w' ∧ Rest bs w w' :=
  (fixed_any w).mono fun _ _ ⟨he, g⟩ => ⟨he, st_kept h (kept_grown g)⟩
end Go.Proofs.Ythgjfnejcoadoaa
