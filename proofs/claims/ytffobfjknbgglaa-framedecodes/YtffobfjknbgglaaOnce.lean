/- A table is made at its first use, by sync.Once, and left alone at each later one: behind the call it is made, and nothing else has turned. The table is a new one, or a made one. -/
import Derived.Test.YtffobfjknbgglaaParts
import Derived.Test.YtffobfjknbgglaaFill
namespace Go.Proofs.Ytffobfjknbgglaa
open Go.ChangeShapes Go.WideShapes Go.ChangeAt Go.RowKit
set_option linter.unusedVariables false

def Fresh (b : Nat) (w : World) : Prop :=
  w.cell? ⟨b, 0, none⟩ = some (.int .u32 0) ∧ w.cell? ⟨b, 1, none⟩ = some (.int .i32 0) ∧ (∀ i, i < 256 → ∃ v, w.cell? ⟨b, 3 + i, none⟩ = some v) ∧ ∀ i, w.frozen? ⟨b, i, none⟩ = false
def Made (b : Nat) (w : World) : Prop :=
  w.cell? ⟨b, 0, none⟩ = some (.int .u32 1) ∧ ∀ i, i < 256 → w.cell? ⟨b, 3 + i, none⟩ = some (.int .u32 (eig i))
def Tab (b : Nat) (w : World) : Prop := Fresh b w ∨ Made b w

theorem load_any (a : Addr) (x : Int) (w : World) (h : w.cell? a = some (.int .u32 x)) :
    Calls Try.prog 30 #[.pointer (some a)] w fun e w' => e = .returned (.bool (x != 0)) ∧ w' = w := by
  have hl := run_call_load (P := Try.prog) Try.func33 (by kernel_rfl) (by kernel_rfl) (by kernel_rfl) .u32 (by kernel_rfl) h
  go_enter Try.func30, Try.ntmps30
  go_wp2
  go_ret
  exact ⟨rfl, rfl⟩

set_option maxRecDepth 100000 in
set_option maxHeartbeats 1600000 in
theorem slow_any (b : Nat) (w : World) (h : Fresh b w) :
    Calls Try.prog 31 #[.pointer (some ⟨b, 0, none⟩), .func (.func 28) #[.pointer (some ⟨b, 0, none⟩)] #[]] w fun e w' => e = .returned (.tuple #[]) ∧ Only b w w' ∧ Made b w' := by
  obtain ⟨h0, h1, hv, hf⟩ := h
  have h0' : (w.setCell ⟨b, 1, none⟩ (.int .i32 1)).cell? ⟨b, 0, none⟩ = some (.int .u32 0) := (World.cell?_setCell_other _ ⟨b, 1, none⟩ ⟨b, 0, none⟩ _ (by simp)).trans h0
  have h1' : (w.setCell ⟨b, 1, none⟩ (.int .i32 1)).cell? ⟨b, 1, none⟩ = some (.int .i32 1) := World.cell?_setCell_same _ _ _ h1
  have hv' : Hid (∀ i, i < 256 → ∃ v, (w.setCell ⟨b, 1, none⟩ (.int .i32 1)).cell? ⟨b, 3 + i, none⟩ = some v) := by
    intro i hi
    rw [World.cell?_setCell_other _ ⟨b, 1, none⟩ ⟨b, 3 + i, none⟩ _ (by simp <;> omega)]
    exact hv i hi
  have hf' : Hid (∀ i, (w.setCell ⟨b, 1, none⟩ (.int .i32 1)).frozen? ⟨b, i, none⟩ = false) := by
    intro i
    rw [World.frozen?_setCell]
    exact hf i
  have hO : Hid (Only b w (w.setCell ⟨b, 1, none⟩ (.int .i32 1))) := (Only.refl b w).setCell _ _
  have hnot : ∀ (x : Bool) (w : World), (Op.unary .not (.bool x)).run Try.prog w = .ok (.bool (!x)) w := fun _ _ => rfl
  have f1 := hf 1
  clear hv hf
  go_enter_defers Try.func31, Try.ntmps31
  go_wp2_with (go_at_call 34; refine (lock_free ⟨b, 1, none⟩ _ (by go_simp) (by go_simp)).mono ?_; rintro e w' ⟨rfl, rfl⟩)
  generalize w.setCell ⟨b, 1, none⟩ (.int .i32 1) = w1 at *
  refine (load_any ⟨b, 0, none⟩ 0 _ h0').mono ?_
  rintro e w' ⟨rfl, rfl⟩
  go_wp2_with (go_at_call 28; refine (fill_any b _ hv'.out hf'.out).mono ?_; rintro e w2 ⟨rfl, hO2, hE, hL⟩)
  have k0 : w2.cell? ⟨b, 0, none⟩ = some (.int .u32 0) := (hL 0 (by omega)).trans h0'
  have k1 : w2.cell? ⟨b, 1, none⟩ = some (.int .i32 1) := (hL 1 (by omega)).trans h1'
  have kf : ∀ i, w2.frozen? ⟨b, i, none⟩ = false := fun i => (hO2.2.2.2.2.2 _).trans (hf'.out i)
  refine leaves_cons (f := 36) (args := #[.pointer (some ⟨b, 0, none⟩), .bool true]) (by simp) (by simp [go_sem]) ?_
  refine (store_deferred ⟨b, 0, none⟩ (.int .u32 0) .returning _ k0 (kf 0)).mono ?_
  rintro e u' w3 ⟨rfl, rfl, rfl⟩
  refine leaves_cons (f := 35) (args := #[.pointer (some ⟨b, 1, none⟩)]) (by simp [settle]) (by simp [go_sem]) ?_
  have k1' : (w2.drew.setCell ⟨b, 0, none⟩ (.int .u32 1)).cell? ⟨b, 1, none⟩ = some (.int .i32 1) := (World.cell?_setCell_other _ ⟨b, 0, none⟩ ⟨b, 1, none⟩ _ (by simp)).trans k1
  have k0' : (w2.drew.setCell ⟨b, 0, none⟩ (.int .u32 1)).cell? ⟨b, 0, none⟩ = some (.int .u32 1) := World.cell?_setCell_same _ _ _ k0
  refine (unlock_deferred ⟨b, 1, none⟩ _ _ k1' ((World.frozen?_setCell _ _ _ _).trans (kf 1))).mono ?_
  rintro e u' w4 ⟨rfl, rfl, rfl⟩
  have hfin : Only b w ((w2.drew.setCell ⟨b, 0, none⟩ (.int .u32 1)).setCell ⟨b, 1, none⟩ (.int .i32 0)) := (((hO.out.trans hO2).drew).setCell _ _).setCell _ _
  have hmade : Made b ((w2.drew.setCell ⟨b, 0, none⟩ (.int .u32 1)).setCell ⟨b, 1, none⟩ (.int .i32 0)) := by
    refine ⟨(World.cell?_setCell_other _ ⟨b, 1, none⟩ ⟨b, 0, none⟩ _ (by simp)).trans k0', fun i hi => ?_⟩
    rw [World.cell?_setCell_other _ ⟨b, 1, none⟩ ⟨b, 3 + i, none⟩ _ (by simp <;> omega), World.cell?_setCell_other _ ⟨b, 0, none⟩ ⟨b, 3 + i, none⟩ _ (by simp <;> omega)]
    exact hE i hi
  simp [Leaves, settle, results, Try.results31]
  exact ⟨hfin, hmade⟩

theorem do_any (b : Nat) (w : World) (h : Tab b w) :
    Calls Try.prog 27 #[.pointer (some ⟨b, 0, none⟩), .func (.func 28) #[.pointer (some ⟨b, 0, none⟩)] #[]] w fun e w' => e = .returned (.tuple #[]) ∧ Only b w w' ∧ Made b w' := by
  have hnot : ∀ (x : Bool) (w : World), (Op.unary .not (.bool x)).run Try.prog w = .ok (.bool (!x)) w := fun _ _ => rfl
  rcases h with h | h
  · have h0 := h.1
    have HH : Hid (Fresh b w) := h
    clear h
    go_enter Try.func27, Try.ntmps27
    go_wp2_with (first | (go_at_call 30; refine (load_any ⟨b, 0, none⟩ 0 _ h0).mono ?_; rintro e w' ⟨rfl, rfl⟩) | (go_at_call 31; refine (slow_any b _ HH.out).mono ?_; rintro e w' ⟨rfl, hO, hM⟩))
    go_end0
    exact ⟨rfl, hO, hM⟩
  · have h0 := h.1
    have HH : Hid (Made b w) := h
    clear h
    go_enter Try.func27, Try.ntmps27
    go_wp2_with (go_at_call 30; refine (load_any ⟨b, 0, none⟩ 1 _ h0).mono ?_; rintro e w' ⟨rfl, rfl⟩)
    go_end0
    exact ⟨rfl, Only.refl _ _, HH.out⟩

set_option maxRecDepth 100000 in
theorem made_any (b : Nat) (w : World) (h : Tab b w) :
    Calls Try.prog 23 #[.pointer (some ⟨b, 0, none⟩)] w fun e w' => e = .returned (.pointer (some ⟨b, 3, none⟩)) ∧ Only b w w' ∧ Made b w' := by
  have hmf : ∀ (fn : Fn) (first cap : Array Value) (w : World), (Instr.makeFunc fn first cap).run Try.prog w = .ok (.func fn first cap) w := fun _ _ _ _ => rfl
  have HH : Hid (Tab b w) := h
  clear h
  go_enter Try.func23, Try.ntmps23
  go_wp2_with (go_at_call 27; refine (do_any b _ HH.out).mono ?_; rintro e w' ⟨rfl, hO, hM⟩)
  go_ret
  exact ⟨rfl, hO, hM⟩
end Go.Proofs.Ytffobfjknbgglaa
