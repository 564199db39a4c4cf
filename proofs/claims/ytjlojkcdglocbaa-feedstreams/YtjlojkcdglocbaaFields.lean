/- The contracts of the library's strings.FieldsFunc at the program's own isBlank, and of what reads numbers. The text has at most 2^32 bytes. They turn nothing that was there. -/
import Derived.Test.YtjlojkcdglocbaaMath
import Derived.Test.YtjlojkcdglocbaaClone
import Derived.Shelf.Strings.FieldsFuncAny
namespace Go.Proofs.Ytjlojkcdglocbaa
open Go.ChangeShapes Go.WideShapes Go.ChangeAt Go.RowKit
set_option linter.unusedVariables false
set_option linter.unusedSimpArgs false

def renF : Go.Shelf.Ren := ⟨fun x => if x = 229 then 39 else x, fun x => if x = 31 then 35 else if x = 40 then 64 else if x = 152 then 70 else if x = 154 then 72 else x, fun x => x⟩
theorem laidF : Go.Proofs.Lays.n229 Try.prog renF :=
  { mixed := by kernel_rfl,
    f229 := by kernel_rfl,
    t0 := by kernel_rfl,
    a0 := fun _ => by kernel_rfl,
    z0 := fun _ => by kernel_rfl,
    v0 := fun _ => by kernel_rfl,
    t3 := by kernel_rfl,
    a3 := fun _ => by kernel_rfl,
    z3 := fun _ => by kernel_rfl,
    v3 := fun _ => by kernel_rfl,
    t4 := by kernel_rfl,
    a4 := fun _ => by kernel_rfl,
    z4 := fun _ => by kernel_rfl,
    v4 := fun _ => by kernel_rfl,
    t9 := by kernel_rfl,
    a9 := fun _ => by kernel_rfl,
    z9 := fun _ => by kernel_rfl,
    v9 := fun _ => by kernel_rfl,
    t21 := by kernel_rfl,
    a21 := fun _ => by kernel_rfl,
    z21 := fun _ => by kernel_rfl,
    v21 := fun _ => by kernel_rfl,
    t31 := by kernel_rfl,
    a31 := fun _ => by kernel_rfl,
    z31 := fun _ => by kernel_rfl,
    v31 := fun _ => by kernel_rfl,
    t40 := by kernel_rfl,
    a40 := fun _ => by kernel_rfl,
    z40 := fun _ => by kernel_rfl,
    v40 := fun _ => by kernel_rfl,
    t152 := by kernel_rfl,
    a152 := fun _ => by kernel_rfl,
    z152 := fun _ => by kernel_rfl,
    v152 := fun _ => by kernel_rfl,
    t154 := by kernel_rfl,
    a154 := fun _ => by kernel_rfl,
    z154 := fun _ => by kernel_rfl,
    v154 := fun _ => by kernel_rfl }
theorem isBlank_any (r : Int) (w : World) : Calls Try.prog 40 #[.int .i32 r] w fun e w' => e = .returned (.bool (r == 32)) ∧ w' = w := by
  go_enter Try.func40, Try.ntmps40
  go_wp2
  go_ret
  exact ⟨rfl, rfl⟩
theorem enters15 : ∀ args w, (callFunc 40 args).run Try.prog w = .ok (.enter 40 args) w := enters_of Try.func40 (by kernel_rfl) rfl
theorem blank_pays (w : World) : PredAtRunes Try.prog 40 #[] isB w := fun W x hx hb => by
  refine (isBlank_any (x : Int) W).mono ?_
  rintro e W' ⟨rfl, rfl⟩
  refine ⟨ret_bool ?_, 0, rfl⟩
  unfold isB
  rw [Bool.eq_iff_iff]
  simp
  omega
theorem FieldsFunc_any (s : ByteArray) (hs : s.size ≤ 4294967296) (w : World) :
    Calls Try.prog 39 #[.string s, .func (.func 40) #[] #[]] w fun e w' => ∃ A, e = .returned (.slice (some ⟨A, 0, none⟩) (words s).length (words s).length) ∧ A < w'.heap.size ∧ (∀ i (h : i < (words s).length), w'.cell? ⟨A, i, none⟩ = some (.string (words s)[i])) ∧ Kept w w' := by
  have h := Any.strings_FieldsFunc_runes laidF 40 #[] enters15 isB s w hs (blank_pays w) (by kernel_rfl) (by kernel_rfl)
  rw [fields_words] at h
  refine h.mono ?_
  rintro e w' ⟨A, rfl, hA, hown, hb⟩
  refine ⟨A, rfl, (hown.lt A rfl).2, fun i hi => ?_, kept_below hb⟩
  have := hown.cellAt i (by simpa using hi)
  rw [this]
  simp
end Go.Proofs.Ytjlojkcdglocbaa
