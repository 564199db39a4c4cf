/- The contract of the function that says a line of words into a text that is being made. What is made has at most 2^47 bytes. -/
import Derived.Test.YtlbpmehlfihpbaaDoorDigits
namespace Go.Proofs.YtlbpmehlfihpbaaDoor
open Go.ChangeShapes Go.WideShapes Go.ChangeAt Go.RowKit
set_option linter.unusedVariables false
set_option linter.unusedSimpArgs false
open Go.Lib

theorem own_stays {w w' : World} {B e s n : Nat} {v : Value} {xs : List Value} (h : w.ownsRowF B e s v n xs) (k : Kept w w') : w'.ownsRowF B e s v n xs := by
  refine ⟨h.1, ?_⟩
  rcases h.2 with h0 | ⟨g, cap, cur, fz, h1, h2, h3, h4⟩
  · exact .inl h0
  · exact .inr ⟨g, cap, cur, fz, h1, h2, (kept_block k (Array.getElem?_eq_some_iff.1 h3).1).trans h3, h4⟩
theorem made_at {w w' : World} {B b : Nat} {p : Value} {bs : List Value} (h : Lib.BuilderAtF 53 5 B b p bs w) (k : Kept w w') : Lib.BuilderAtF 53 5 B b p bs w' := by
  obtain ⟨hB, v, h1, h2, h3⟩ := h
  exact ⟨hB, v, (kept_block k (Array.getElem?_eq_some_iff.1 h1).1).trans h1, own_stays h2 k, h3⟩
/- A text that is being made: what it holds so far. -/
def Made (B b : Nat) (l : List UInt8) (w : World) : Prop := Lib.IsBuilderF 53 5 B b (Lib.byteCells l) w ∧ B ≤ w.heap.size
theorem made_kept {w w' : World} {B b : Nat} {l : List UInt8} (h : Made B b l w) (k : Kept w w') : Made B b l w' :=
  ⟨h.1.elim (fun x => .inl (made_at x k)) (fun x => .inr (made_at x k)), Nat.le_trans h.2 k.2⟩
/- What may have turned: the text that is being made alone. -/
def Said (B b : Nat) (w w' : World) : Prop := Below B w w' ∧ Lib.OthersKept 5 (some b) w w'
theorem said_refl (B b : Nat) (w : World) : Said B b w w := ⟨Below.refl _ _, Lib.OthersKept.refl _ _ _⟩
theorem said_trans {B b : Nat} {u v w : World} (h : Said B b u v) (k : Said B b v w) : Said B b u w := ⟨h.1.trans k.1, h.2.trans k.2⟩
theorem said_kept {B b : Nat} {w w' : World} (h : Below w.heap.size w w') (hB : B ≤ w.heap.size) : Said B b w w' :=
  ⟨⟨h.os, h.tape, h.output, h.size, fun k hk => h.block k (by omega)⟩, fun k o hk _ _ => (h.block k (Array.getElem?_eq_some_iff.1 hk).1).trans hk⟩
theorem at_said {B b : Nat} {w w' : World} {X T : Nat} {cs : Array Value} (h : At w X cs T) (s : Said B b w w') (hn : X ≠ b) (hT : T ≠ 5) : At w' X cs T :=
  s.2 X _ h (by simpa using hn) (fun c fz e => by injection e with _ e2 _; exact hT e2)
theorem write_any {B b : Nat} {l : List UInt8} (s : ByteArray) (w : World) (h : Made B b l w) (hlen : l.length + s.size ≤ 140737488355328) :
    Calls Tryd.prog 20 #[.pointer (some ⟨b, 0, none⟩), .string s] w fun e w' => e = .returned (.tuple #[.int .i64 s.size, .nilIface]) ∧ Made B b (l ++ s.data.toList) w' ∧ Said B b w w' := by
  refine (lib_Write B b (Lib.byteCells l) s w h.1 (by simpa [Lib.byteCells] using hlen) h.2).mono ?_
  rintro e w' ⟨he, hm, hb, ho⟩
  refine ⟨he, ⟨.inr ?_, Nat.le_trans h.2 hb.size⟩, hb, ho⟩
  rw [Lib.byteCells_append, ← Lib.strCells_eq]
  exact hm
theorem sayLine_any {B b : Nat} {l : List UInt8} (bk : Nat) (xs : List ByteArray) (w : World) (h : Made B b l w)
    (hcells : ∀ (j : Nat) x, xs[j]? = some x → w.cell? ⟨bk, 0 + j, none⟩ = some (.string x)) (hbk : bk < w.heap.size) (hN : xs.length ≤ 1000)
    (hlen : l.length + (Lib.join (xs.map (·.data.toList)) [32]).length + 2 ≤ 140737488355328) :
    Calls Tryd.prog 18 #[.pointer (some ⟨b, 0, none⟩), .slice (some ⟨bk, 0, none⟩) xs.length xs.length] w fun e w' => e = .returned (.tuple #[]) ∧ Made B b (l ++ (Lib.join (xs.map (·.data.toList)) [32] ++ [13, 10])) w' ∧ Said B b w w' := by
  have hj := lib_Join bk 0 xs.length xs ⟨#[32]⟩ w hcells hbk (by omega) (Nat.le_refl _) (by show (Lib.join (xs.map (·.data.toList)) [32]).length ≤ _; omega)
  have HJ : Hid (∀ w1, Kept w w1 → Calls Tryd.prog 20 #[.pointer (some ⟨b, 0, none⟩), .string ⟨(Lib.join (xs.map (·.data.toList)) [32]).toArray⟩] w1 fun e w' => e = .returned (.tuple #[.int .i64 (⟨(Lib.join (xs.map (·.data.toList)) [32]).toArray⟩ : ByteArray).size, .nilIface]) ∧ Made B b (l ++ Lib.join (xs.map (·.data.toList)) [32]) w' ∧ Said B b w1 w') := fun w1 hk => by
    have := write_any ⟨(Lib.join (xs.map (·.data.toList)) [32]).toArray⟩ w1 (made_kept h hk) (by rw [mk_size]; omega)
    rw [mk_list] at this
    exact this
  have HB : Hid (B ≤ w.heap.size) := h.2
  have HL : Hid ((l ++ Lib.join (xs.map (·.data.toList)) [32]).length + 2 ≤ 140737488355328) := by show _ ≤ _; rw [List.length_append]; omega
  have hj' : Calls Tryd.prog 29 #[.slice (some ⟨bk, 0, none⟩) xs.length xs.length, .string ⟨#[32]⟩] w fun e w' => e = .returned (.string ⟨(Lib.join (xs.map (·.data.toList)) [32]).toArray⟩) ∧ Below w.heap.size w w' := hj
  clear hj hlen hcells hbk hN h
  generalize Lib.join (xs.map (·.data.toList)) [32] = j at *
  generalize xs.length = n at *
  go_enter Tryd.func18, Tryd.ntmps18
  go_wp2_with fail
  refine hj'.mono ?_
  rintro e w1 ⟨rfl, hb1⟩
  have hS1 := hid (said_kept (b := b) hb1 HB.out)
  have hc := HJ.out w1 (kept_below hb1)
  clear hb1 hj' HJ
  go_wp2_with fail
  refine hc.mono ?_
  rintro e w2 ⟨rfl, hm2, hs2⟩
  have hS2 := hid (said_trans hS1.out hs2)
  have hc2 := write_any ⟨#[13, 10]⟩ w2 hm2 HL.out
  clear hc hs2 hS1 hm2
  go_wp2_with fail
  refine hc2.mono ?_
  rintro e w3 ⟨rfl, hm3, hs3⟩
  go_wp2_with fail
  refine bodyPost_end (v := .tuple #[]) (by kernel_rfl) rfl ?_
  exact ⟨rfl, by rw [← List.append_assoc]; exact hm3, said_trans hS2.out hs3⟩
end Go.Proofs.YtlbpmehlfihpbaaDoor
