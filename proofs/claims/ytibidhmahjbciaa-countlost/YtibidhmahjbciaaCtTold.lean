/- The contracts of the landed All and Reset. -/
import Derived.Test.YtibidhmahjbciaaCtTell
namespace Go.Proofs.Ytibidhmahjbciaa
open Go.ChangeShapes Go.WideShapes Go.ChangeAt Go.RowKit
set_option linter.unusedVariables false
set_option linter.unusedSimpArgs false
set_option maxRecDepth 100000

/- A function that has a body is entered. -/
theorem run_enters {P : Program} {f : FuncId} {fn : Func} (hf : P.funcs[f]? = some fn) (hname : (fn.name == "runtime.NumGoroutine") = false) (hb : fn.body.isSome = true) (args : Array Value) (u : World) : (callFunc f args).run P u = .ok (.enter f args) u := by
  obtain ⟨c, hc⟩ := Option.isSome_iff_exists.1 hb
  have h1 : fn.name ≠ "runtime.NumGoroutine" := by simpa using hname
  simp [callFunc, hf, h1, hc]
theorem tell_nil (v : Value) (w : World) : Calls Try.prog 18 #[.pointer none, v] w fun e w' => e = .returned (.slice none 0 0) ∧ w' = w := by
  go_enter Try.func18, Try.ntmps18
  go_wp2_with fail
  go_ret
  exact ⟨rfl, rfl⟩
theorem tell_load {X G M c : Nat} {l : List Ct} (hl : l.length ≤ 4096) (w : World) (h : Co w X l G M c) : Calls Try.prog 18 #[.pointer (some ⟨X, 0, none⟩), .func (.func 21) #[] #[]] w fun e w' => ∃ R, e = .returned (.slice (some ⟨R, 0, none⟩) l.length l.length) ∧ TlR w X G M R l.length l false l.length l.length w' :=
  tell_any hl 21 false (fun args u => run_enters Try.func21 (by kernel_rfl) (by kernel_rfl) args u) w h (fun R i x u hx ht =>
    (load_any G (i * 2 + 1) x.n u (og_C ht.g (cl_at false hx)).2).mono (by
      rintro e u' ⟨rfl, rfl⟩
      exact ⟨rfl, ht.x, ht.g, ht.q, ht.t⟩))
theorem tell_take {X G M c : Nat} {l : List Ct} (hl : l.length ≤ 4096) (w : World) (h : Co w X l G M c) : Calls Try.prog 18 #[.pointer (some ⟨X, 0, none⟩), .func (.func 19) #[] #[]] w fun e w' => ∃ R, e = .returned (.slice (some ⟨R, 0, none⟩) l.length l.length) ∧ TlR w X G M R l.length l true l.length l.length w' :=
  tell_any hl 19 true (fun args u => run_enters Try.func19 (by kernel_rfl) (by kernel_rfl) args u) w h (fun R i x u hx ht =>
    (takeall_any G (i * 2 + 1) x.n u (og_C ht.g (cl_at true hx)).2 (og_frozen ht.g _)).mono (by
      rintro e u' ⟨rfl, rfl⟩
      exact ⟨rfl, tlr_clear ht hx⟩))
theorem all_is {X G M c : Nat} {l : List Ct} (hl : l.length ≤ 4096) (w : World) (h : Co w X l G M c) : Calls Try.prog 16 #[.pointer (some ⟨X, 0, none⟩)] w fun e w' => ∃ r, e = .returned r ∧ Og encC 2 46 w' w.heap.size r l ∧ Kept w w' := by
  have ht := tell_load hl w h
  clear h
  go_enter Try.func16, Try.ntmps16
  go_wp2_with fail
  refine ht.mono ?_
  rintro e w1 ⟨R, rfl, t⟩
  have HQ : Hid (Og encC 2 46 w1 w.heap.size (.slice (some ⟨R, 0, none⟩) l.length l.length) l) := hid (by have := t.q; rwa [tl_end] at this)
  have HK : Hid (Kept w w1) := hid (kept_tn t.t (kept_refl w) (fun b hb => absurd hb.1 (by decide)))
  clear t ht
  go_wp2_with fail
  go_ret
  exact ⟨_, rfl, HQ.out, HK.out⟩
theorem reset_is {X G M c : Nat} {l : List Ct} (hl : l.length ≤ 4096) (w : World) (h : Co w X l G M c) : Calls Try.prog 11 #[.pointer (some ⟨X, 0, none⟩)] w fun e w' => ∃ r, e = .returned r ∧ Og encC 2 46 w' w.heap.size r l ∧ Co w' X (restC l) G M c ∧ Tn (fun b => b = G) w w' := by
  have ht := tell_take hl w h
  have HC := hid h
  clear h
  go_enter Try.func11, Try.ntmps11
  go_wp2_with fail
  refine ht.mono ?_
  rintro e w1 ⟨R, rfl, t⟩
  have HQ : Hid (Og encC 2 46 w1 w.heap.size (.slice (some ⟨R, 0, none⟩) l.length l.length) l) := hid (by have := t.q; rwa [tl_end] at this)
  have HT : Hid (Tn (fun b => b = G) w w1) := hid ⟨t.t.1, t.t.2.1, t.t.2.2.1, fun b hb hn => t.t.2.2.2 b hb (fun e => hn e.2)⟩
  have HO : Hid (Co w1 X (restC l) G M c) := hid (by
    refine ⟨by rw [rest_len]; exact t.x, by rw [rest_len, ← cl_end]; exact t.g, ?_, ?_⟩
    · have hn : (restC l).map (·.name) = l.map (·.name) := by unfold restC; rw [List.map_map]; rfl
      rw [plc_names hn]
      exact gm_block HC.out.m (HT.out.2.2.2 M (co_lt HC.out).2.2 (Ne.symm (co_ne HC.out).2.2))
    · intro x hx
      unfold restC at hx
      obtain ⟨y, hy, rfl⟩ := List.mem_map.1 hx
      exact HC.out.q y hy)
  clear t ht
  go_wp2_with fail
  go_ret
  exact ⟨_, rfl, HQ.out, HO.out, HT.out⟩
theorem all_nil_any (w : World) : Calls Try.prog 16 #[.pointer none] w fun e w' => ∃ a cap, e = .returned (.slice a 0 cap) ∧ Kept w w' := by
  have ht := fun v => tell_nil v w
  go_enter Try.func16, Try.ntmps16
  go_wp2_with fail
  refine (ht _).mono ?_
  rintro e w1 ⟨rfl, rfl⟩
  go_wp2_with fail
  go_ret
  exact ⟨none, 0, rfl, kept_refl _⟩
theorem reset_nil_any (w : World) : Calls Try.prog 11 #[.pointer none] w fun e w' => ∃ a cap, e = .returned (.slice a 0 cap) ∧ Kept w w' := by
  have ht := fun v => tell_nil v w
  go_enter Try.func11, Try.ntmps11
  go_wp2_with fail
  refine (ht _).mono ?_
  rintro e w1 ⟨rfl, rfl⟩
  go_wp2_with fail
  go_ret
  exact ⟨none, 0, rfl, kept_refl _⟩
end Go.Proofs.Ytibidhmahjbciaa
