/- What a call may turn: one block of its own (Only), and the filling of a table: behind it each of the 256 entries is what becomes of its number in eight times. The table's cells are there and none is frozen. -/
import Derived.Test.YtffobfjknbgglaaEight
import Derived.Deep.RegionWith
import Derived.WalkKit
import Derived.ProofKit
import Derived.OpenShut
namespace Go.Proofs.Ytffobfjknbgglaa
open Go.ChangeShapes Go.WideShapes Go.ChangeAt Go.RowKit
set_option linter.unusedVariables false

def Only (b : Nat) (w w' : World) : Prop :=
  w'.os = w.os ∧ w'.tape = w.tape ∧ w'.output = w.output ∧ w'.heap.size = w.heap.size ∧ (∀ k, k ≠ b → w'.heap[k]? = w.heap[k]?) ∧ ∀ a, w'.frozen? a = w.frozen? a
theorem Only.refl (b : Nat) (w : World) : Only b w w := ⟨rfl, rfl, rfl, rfl, fun _ _ => rfl, fun _ => rfl⟩
theorem Only.trans {b : Nat} {u v w : World} (h : Only b u v) (k : Only b v w) : Only b u w :=
  ⟨k.1.trans h.1, k.2.1.trans h.2.1, k.2.2.1.trans h.2.2.1, k.2.2.2.1.trans h.2.2.2.1, fun i hi => (k.2.2.2.2.1 i hi).trans (h.2.2.2.2.1 i hi), fun a => (k.2.2.2.2.2 a).trans (h.2.2.2.2.2 a)⟩
theorem Only.drew {b : Nat} {u v : World} (h : Only b u v) : Only b u v.drew := h
theorem Only.setCell {b : Nat} {u v : World} (h : Only b u v) (o : Nat) (x : Value) : Only b u (v.setCell ⟨b, o, none⟩ x) :=
  h.trans ⟨rfl, rfl, rfl, by simp [World.setCell], fun k hk => Below.heap_setCell _ _ _ _ hk, fun a => World.frozen?_setCell _ _ _ _⟩
theorem Only.cell {b : Nat} {w w' : World} (h : Only b w w') {p : Addr} (hp : p.block ≠ b) : w'.cell? p = w.cell? p := World.cell?_of_block (w := w) (h.2.2.2.2.1 p.block hp)
theorem Only.grown {b : Nat} {W w w' : World} (h : Only b w w') (hb : W.heap.size ≤ b) (g : Grown W w) : Grown W w' := by
  obtain ⟨⟨h1, h2, h3⟩, hf, hs⟩ := g
  obtain ⟨k1, k2, k3, k4, k5, k6⟩ := h
  refine ⟨⟨k1.trans h1, k3.trans h2, fun i hi => ?_⟩, fun x => (k6 x).trans (hf x), by omega⟩
  rw [k5 i (by omega)]
  exact h3 i hi

set_option maxRecDepth 100000 in
theorem fill_any (b : Nat) (w : World) (hv : ∀ i, i < 256 → ∃ v, w.cell? ⟨b, 3 + i, none⟩ = some v) (hf : ∀ i, w.frozen? ⟨b, i, none⟩ = false) :
    Calls Try.prog 28 #[.pointer (some ⟨b, 0, none⟩)] w fun e w' => e = .returned (.tuple #[]) ∧ Only b w w' ∧ (∀ i, i < 256 → w'.cell? ⟨b, 3 + i, none⟩ = some (.int .u32 (eig i))) ∧ (∀ i, i < 3 → w'.cell? ⟨b, i, none⟩ = w.cell? ⟨b, i, none⟩) := by
  go_enter Try.func28, Try.ntmps28
  go_wp2
  go_loopw [3] (fun j wr => ∃ k : Nat, k ≤ 256 ∧ j = .int .i64 k ∧ Hid (Only b w wr) ∧ Hid (∀ i, i < 256 → ∃ v, wr.cell? ⟨b, 3 + i, none⟩ = some v) ∧ Hid (∀ i, i < k → wr.cell? ⟨b, 3 + i, none⟩ = some (.int .u32 (eig i))) ∧ Hid (∀ i, i < 3 → wr.cell? ⟨b, i, none⟩ = w.cell? ⟨b, i, none⟩)) (fun j _ => 256 - (intOf j).toNat)
  case atStart => exact ⟨0, Nat.zero_le _, rfl, Only.refl b w, hv, fun i hi => absurd hi (Nat.not_lt_zero _), fun _ _ => rfl⟩
  case round =>
    obtain ⟨k, hk, rfl, HO, HV, HE, HL⟩ := hrel
    by_cases hlt : k < 256
    · obtain ⟨v, hv0⟩ := HV.out k hlt
      have hf0 : wr.frozen? ⟨b, 3 + k, none⟩ = false := (HO.out.2.2.2.2.2 _).trans (hf _)
      clear hv hf
      have hwr : IntKind.u32.wrap (k : Int) = (k : Int) := by rw [IntKind.wrap_u32]; omega
      go_wp2
      go_region_with (go_at_call 32; refine (eight_any k (by omega) _).mono ?_; rintro e w' ⟨rfl, rfl⟩)
      have HW : Hid (∀ i, (wr.setCell ⟨b, 3 + k, none⟩ (.int .u32 (eig k))).drew.cell? ⟨b, 3 + i, none⟩ = if i = k then some (.int .u32 (eig k)) else wr.cell? ⟨b, 3 + i, none⟩) := by
        intro i
        rw [World.cell?_drew]
        split
        · rename_i h; subst h; exact World.cell?_setCell_same _ _ _ hv0
        · exact World.cell?_setCell_other _ _ _ _ (by simp <;> omega)
      have HX : Hid (∀ i, i < 3 → (wr.setCell ⟨b, 3 + k, none⟩ (.int .u32 (eig k))).drew.cell? ⟨b, i, none⟩ = wr.cell? ⟨b, i, none⟩) := by
        intro i hi
        rw [World.cell?_drew]
        exact World.cell?_setCell_other _ _ _ _ (by simp <;> omega)
      have HY : Hid (Only b w (wr.setCell ⟨b, 3 + k, none⟩ (.int .u32 (eig k))).drew) := (HO.out.setCell _ _).drew
      generalize (wr.setCell ⟨b, 3 + k, none⟩ (.int .u32 (eig k))).drew = wn at *
      go_wp2
      go_roundw
      case rel =>
        refine ⟨k + 1, by omega, by go_num, HY, fun i hi => ?_, fun i hi => ?_, fun i hi => ?_⟩
        · rw [HW.out i]; split
          · exact ⟨_, rfl⟩
          · exact HV.out i hi
        · rw [HW.out i]; split
          · rename_i h; subst h; rfl
          · exact HE.out i (by omega)
        · exact (HX.out i hi).trans (HL.out i hi)
      case measure => simp [intOf]; omega
    · have hkk : k = 256 := by omega
      subst hkk
      clear hv hf
      go_wp2
      go_end0
      exact ⟨rfl, HO.out, HE.out, HL.out⟩
end Go.Proofs.Ytffobfjknbgglaa
