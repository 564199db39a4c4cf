/- The contract of the landed tell, whatever reads a number: by Load, or by takeAll. Texts have at most 2^47 bytes. -/
import Derived.Test.YtibidhmahjbciaaCtObj
import Derived.Test.YtibidhmahjbciaaClone
import Derived.Test.YtibidhmahjbciaaGTn
namespace Go.Proofs.Ytibidhmahjbciaa
open Go.ChangeShapes Go.WideShapes Go.ChangeAt Go.RowKit
set_option linter.unusedVariables false
set_option linter.unusedSimpArgs false
set_option maxRecDepth 100000

/- What is left of the counts when i of them have been read, and cleared if b. -/
def clC (b : Bool) (l : List Ct) (i : Nat) : List Ct := if b then restC (l.take i) ++ l.drop i else l
theorem cl_zero (b : Bool) (l : List Ct) : clC b l 0 = l := by unfold clC restC; cases b <;> simp
theorem cl_len (b : Bool) (l : List Ct) {i : Nat} (hi : i ≤ l.length) : (clC b l i).length = l.length := by
  unfold clC
  cases b
  · rfl
  · simp only [if_pos]
    rw [List.length_append, rest_len, List.length_take, List.length_drop]
    omega
theorem cl_end (l : List Ct) : clC true l l.length = restC l := by unfold clC; simp
theorem cl_at (b : Bool) {l : List Ct} {i : Nat} {x : Ct} (hx : l[i]? = some x) : (clC b l i)[i]? = some x := by
  have hi := (List.getElem?_eq_some_iff.1 hx).1
  unfold clC
  cases b
  · exact hx
  · simp only [if_pos]
    rw [List.getElem?_append_right (by rw [rest_len, List.length_take]; omega), rest_len, List.length_take, Nat.min_eq_left (by omega), Nat.sub_self, List.getElem?_drop]
    exact hx
theorem cl_next {l : List Ct} {i : Nat} {x : Ct} (hx : l[i]? = some x) : (clC true l i).set i ⟨x.name, 0⟩ = clC true l (i + 1) := by
  have hi := (List.getElem?_eq_some_iff.1 hx).1
  have e2 := (List.getElem?_eq_some_iff.1 hx).2
  have hl : (restC (l.take i)).length = i := by rw [rest_len, List.length_take]; omega
  unfold clC
  simp only [if_pos]
  rw [List.set_append_right _ _ (by omega), hl, Nat.sub_self, List.drop_eq_getElem_cons hi, List.set_cons_zero, take_next hx]
  unfold restC
  rw [List.map_append, List.append_assoc]
  rfl
theorem cl_name (b : Bool) {l : List Ct} {i : Nat} {x : Ct} (hx : l[i]? = some x) : ∃ y, (clC b l (i + 1))[i]? = some y ∧ y.name = x.name := by
  have hi := (List.getElem?_eq_some_iff.1 hx).1
  cases b with
  | false => exact ⟨x, hx, rfl⟩
  | true =>
    refine ⟨⟨x.name, 0⟩, ?_, rfl⟩
    rw [← cl_next hx, List.getElem?_set_self (by rw [cl_len true l (by omega)]; exact hi)]
/- What is told of i of them. -/
def tlC (l : List Ct) (i : Nat) : List Ct := l.take i ++ List.replicate (l.length - i) ⟨⟨#[]⟩, 0⟩
theorem tl_zero (l : List Ct) : tlC l 0 = List.replicate l.length ⟨⟨#[]⟩, 0⟩ := by unfold tlC; simp
theorem tl_end (l : List Ct) : tlC l l.length = l := by unfold tlC; simp
theorem tl_at {l : List Ct} {i : Nat} (hi : i < l.length) : (tlC l i)[i]? = some ⟨⟨#[]⟩, 0⟩ := by
  unfold tlC
  rw [List.getElem?_append_right (by rw [List.length_take]; omega), List.length_take, Nat.min_eq_left (by omega), Nat.sub_self, List.getElem?_replicate, if_pos (by omega)]
theorem tl_next {l : List Ct} {i : Nat} {x : Ct} (hx : l[i]? = some x) : (tlC l i).set i x = tlC l (i + 1) := by
  have hi := (List.getElem?_eq_some_iff.1 hx).1
  obtain ⟨d, hd⟩ : ∃ d, l.length - i = d + 1 := ⟨l.length - i - 1, by omega⟩
  unfold tlC
  rw [List.set_append_right _ _ (by rw [List.length_take]; omega), List.length_take, Nat.min_eq_left (by omega), Nat.sub_self, hd, show l.length - (i + 1) = d by omega, List.replicate_succ, List.set_cons_zero, take_next hx, List.append_assoc]
  rfl
/- Two cells of a row of structs laid anew. -/
theorem og_set2 {w : World} {Q n cap B T : Nat} {xs : List Ct} {i : Nat} {z : Ct} (h : Og encC 2 T w B (.slice (some ⟨Q, 0, none⟩) n cap) xs) (hz : xs[i]? = some z) (y : Ct) : Og encC 2 T ((w.setCell ⟨Q, i * 2, none⟩ (.string y.name)).setCell ⟨Q, i * 2 + 1, none⟩ (.int .u64 y.n)) B (.slice (some ⟨Q, 0, none⟩) n cap) (xs.set i y) := by
  have hi := (List.getElem?_eq_some_iff.1 hz).1
  have g1 := og_put encC_ok h (j := 0) (x' := ⟨y.name, z.n⟩) (u := .string y.name) hz (by decide) rfl
  have e1 : (xs.set i ⟨y.name, z.n⟩)[i]? = some (⟨y.name, z.n⟩ : Ct) := List.getElem?_set_self hi
  have g2 := og_put encC_ok g1 (j := 1) (x' := y) (u := .int .u64 y.n) e1 (by decide) rfl
  rw [List.set_set] at g2
  exact g2
/- What stands while the counts are told: j have been read, i told. -/
structure TlR (w : World) (X G M R n : Nat) (l : List Ct) (b : Bool) (j i : Nat) (u : World) : Prop where
  x : At u X #[.slice (some ⟨G, 0, none⟩) n n, .map (some M)] 52
  g : Og encC 2 61 u 0 (.slice (some ⟨G, 0, none⟩) n n) (clC b l j)
  q : Og encC 2 46 u w.heap.size (.slice (some ⟨R, 0, none⟩) n n) (tlC l i)
  t : Tn (fun c => b = true ∧ c = G) w u
section
variable {w u u' : World} {X G M R n : Nat} {l : List Ct} {b : Bool} {j i : Nat}
theorem tlr_kept (h : TlR w X G M R n l b j i u) (k : Kept u u') : TlR w X G M R n l b j i u' := ⟨at_kept h.x k, og_stays h.g k, og_stays h.q k, tn_next h.t k⟩
theorem tlr_tell (h : TlR w X G M R n l b j i u) {x : Ct} (hx : l[i]? = some x) (hi : i < l.length) : TlR w X G M R n l b j (i + 1) ((u.setCell ⟨R, i * 2, none⟩ (.string x.name)).setCell ⟨R, i * 2 + 1, none⟩ (.int .u64 x.n)) := by
  obtain ⟨cq, hcq⟩ := og_type h.q
  obtain ⟨cg, hcg⟩ := og_type h.g
  have n1 : X ≠ R := at_ne h.x hcq (by decide)
  have n2 : G ≠ R := at_ne hcg hcq (by decide)
  have hR : w.heap.size ≤ R := og_lt h.q rfl
  refine ⟨at_other (at_other h.x n1 _ _) n1 _ _, og_block h.g (fun g cur e _ => by
    injection e with e
    subst e
    exact (Below.heap_setCell _ _ _ _ n2).trans (Below.heap_setCell _ _ _ _ n2)), ?_, tn_comp (tn_comp h.t (tn_set _ R _ _) (fun b hb => .inr (by rw [hb]; exact hR))) (tn_set _ R _ _) (fun b hb => .inr (by rw [hb]; exact hR))⟩
  rw [← tl_next hx]
  exact og_set2 h.q (tl_at hi) x
theorem tlr_clear (h : TlR w X G M R n l true i i u) {x : Ct} (hx : l[i]? = some x) : TlR w X G M R n l true (i + 1) i (u.setCell ⟨G, i * 2 + 1, none⟩ (.int .u64 0)) := by
  obtain ⟨cq, hcq⟩ := og_type h.q
  obtain ⟨cg, hcg⟩ := og_type h.g
  have n1 : X ≠ G := at_ne h.x hcg (by decide)
  have n2 : R ≠ G := at_ne hcq hcg (by decide)
  refine ⟨at_other h.x n1 _ _, ?_, og_block h.q (fun g cur e _ => by
    injection e with e
    subst e
    exact Below.heap_setCell _ _ _ _ n2), tn_comp h.t (tn_set _ G _ _) (fun b hb => .inl ⟨rfl, hb⟩)⟩
  rw [← cl_next hx]
  exact og_put encC_ok h.g (j := 1) (x' := ⟨x.name, 0⟩) (cl_at true hx) (by decide) rfl
/- What the walk asks of the memory. -/
theorem tlr_see (h : TlR w X G M R n l b j i u) {x : Ct} (hx : l[i]? = some x) {y : Ct} (hy : (clC b l j)[i]? = some y) (hn : y.name = x.name) :
    ((u.cell? ⟨X, 0, none⟩ = some (.slice (some ⟨G, 0, none⟩) n n)) ∧ (u.cell? ⟨G, i * 2, none⟩ = some (.string x.name))) ∧ (u.cell? ⟨R, i * 2, none⟩ = some (.string ⟨#[]⟩) ∧ u.cell? ⟨R, i * 2 + 1, none⟩ = some (.int .u64 0)) ∧ (∀ k, u.frozen? ⟨R, k, none⟩ = false) ∧
    (((((u.setCell ⟨R, i * 2, none⟩ (.string x.name)).setCell ⟨R, i * 2 + 1, none⟩ (.int .u64 x.n))).cell? ⟨X, 0, none⟩ = some (.slice (some ⟨G, 0, none⟩) n n)) ∧ ((((u.setCell ⟨R, i * 2, none⟩ (.string x.name)).setCell ⟨R, i * 2 + 1, none⟩ (.int .u64 x.n))).cell? ⟨G, i * 2, none⟩ = some (.string x.name))) ∧ TlR w X G M R n l b j (i + 1) ((u.setCell ⟨R, i * 2, none⟩ (.string x.name)).setCell ⟨R, i * 2 + 1, none⟩ (.int .u64 x.n)) := by
  have hi := (List.getElem?_eq_some_iff.1 hx).1
  have h2 := tlr_tell h hx hi
  refine ⟨⟨at_cell h.x 0, by have := (og_C h.g hy).1; rw [hn] at this; exact this⟩, og_C h.q (tl_at hi), og_frozen h.q, ⟨at_cell h2.x 0, by have := (og_C h2.g hy).1; rw [hn] at this; exact this⟩, h2⟩
end
theorem clone_kept (s : ByteArray) (hq : QOk s) (w : World) : Calls Try.prog 17 #[.string s] w fun e w' => e = .returned (.string s) ∧ Below w.heap.size w w' := clone_any s hq w
set_option maxHeartbeats 3200000 in
theorem tell_any {X G M c : Nat} {l : List Ct} (hl : l.length ≤ 4096) (f : Nat) (b : Bool) (hent : ∀ args u, (callFunc f args).run Try.prog u = .ok (.enter f args) u) (w : World) (h : Co w X l G M c)
    (hf : ∀ (R : Nat) (i : Nat) (x : Ct) (u : World), l[i]? = some x → TlR w X G M R l.length l b i i u → Calls Try.prog f #[.pointer (some ⟨G, i * 2 + 1, none⟩)] u fun e u' => e = .returned (.int .u64 x.n) ∧ TlR w X G M R l.length l b (i + 1) i u') :
    Calls Try.prog 18 #[.pointer (some ⟨X, 0, none⟩), .func (.func f) #[] #[]] w fun e w' => ∃ R, e = .returned (.slice (some ⟨R, 0, none⟩) l.length l.length) ∧ TlR w X G M R l.length l b l.length l.length w' := by
  obtain ⟨iC, hiC, hzC, hsC, hbC⟩ := info_parts infoC
  obtain ⟨cs1, mk1, O1⟩ := og_full (P := Try.prog) (t := 29) encC_ok Try.underlying29 hiC hzC hsC (by rw [hbC]; decide) (z := ⟨⟨#[]⟩, 0⟩) rfl l.length hl w
  obtain ⟨x0, x1⟩ := cells2 h.x
  have K1 := kept_alloc (kept_refl w) (.cells cs1 46)
  have HEnt := hid hent
  have HQk : Hid (∀ x ∈ l, QOk x.name) := hid h.q
  obtain ⟨R, hR⟩ : ∃ R, w.heap.size = R := ⟨_, rfl⟩
  have HT0 : Hid (TlR w X G M R l.length l b 0 0 (w.alloc (.cells cs1 46))) := hid ⟨at_kept h.x K1, by rw [cl_zero]; exact og_stays h.g K1, by rw [tl_zero, ← hR]; exact O1, tn_kept K1⟩
  have HRd : Hid (∀ (i : Nat) (x : Ct) (u : World), l[i]? = some x → TlR w X G M R l.length l b i i u → Calls Try.prog f #[.pointer (some ⟨G, i * 2 + 1, none⟩)] u fun e u' => e = .returned (.int .u64 x.n) ∧ TlR w X G M R l.length l b (i + 1) i u') := hid (fun i x u => hf R i x u)
  have HG : Hid (∀ k, k < l.length → ∃ y, l[k]? = some y) := hid (fun k hk => ⟨l[k], List.getElem?_eq_getElem hk⟩)
  have c1 : (w.alloc (.cells cs1 46)).cell? ⟨X, 0, none⟩ = some (.slice (some ⟨G, 0, none⟩) l.length l.length) := at_cell (at_kept h.x K1) 0
  clear O1 K1 hiC hzC hsC hbC h hf hent
  generalize w.alloc (.cells cs1 46) = w1 at *
  rw [hR] at mk1
  clear hR
  obtain ⟨n, hn⟩ : ∃ n, n = l.length := ⟨_, rfl⟩
  rw [← hn] at mk1 HT0 HG c1 hl x0 HRd ⊢
  clear hn
  go_enter Try.func18, Try.ntmps18
  go_wp2_with fail
  clear mk1 c1 x0 x1
  go_loopw [20] (fun v wr => ∃ i : Nat, i ≤ n ∧ v = .int .i64 (i : Int) ∧ Hid (TlR w X G M R n l b i i wr)) (fun v _ => n - (intOf v).toNat)
  case atStart => exact ⟨0, Nat.zero_le _, rfl, HT0⟩
  case round =>
    obtain ⟨i, hi, rfl, HT⟩ := hrel
    clear HT0
    by_cases hlt : i < n
    · obtain ⟨x, hx⟩ := HG.out i hlt
      have HTd : Hid (TlR w X G M R n l b i i wr.drew) := hid (tlr_kept HT.out (kept_drew (kept_refl _)))
      have HSt : Hid (∀ u j, TlR w X G M R n l b j i u → (j = i ∨ j = i + 1) → ((u.cell? ⟨X, 0, none⟩ = some (.slice (some ⟨G, 0, none⟩) n n)) ∧ (u.cell? ⟨G, i * 2, none⟩ = some (.string x.name))) ∧ (u.cell? ⟨R, i * 2, none⟩ = some (.string ⟨#[]⟩) ∧ u.cell? ⟨R, i * 2 + 1, none⟩ = some (.int .u64 0)) ∧ (∀ k, u.frozen? ⟨R, k, none⟩ = false) ∧
    (((((u.setCell ⟨R, i * 2, none⟩ (.string x.name)).setCell ⟨R, i * 2 + 1, none⟩ (.int .u64 x.n))).cell? ⟨X, 0, none⟩ = some (.slice (some ⟨G, 0, none⟩) n n)) ∧ ((((u.setCell ⟨R, i * 2, none⟩ (.string x.name)).setCell ⟨R, i * 2 + 1, none⟩ (.int .u64 x.n))).cell? ⟨G, i * 2, none⟩ = some (.string x.name))) ∧ TlR w X G M R n l b j (i + 1) ((u.setCell ⟨R, i * 2, none⟩ (.string x.name)).setCell ⟨R, i * 2 + 1, none⟩ (.int .u64 x.n))) := hid (fun u j hu hj => by
        rcases hj with rfl | rfl
        · exact tlr_see hu hx (cl_at b hx) rfl
        · obtain ⟨y, hy, hyn⟩ := cl_name b hx
          exact tlr_see hu hx hy hyn)
      have hS := (HSt.out wr.drew i HTd.out (.inl rfl)).1
      have hCl : ∀ u, Calls Try.prog 17 #[.string x.name] u fun e w' => e = .returned (.string x.name) ∧ Below u.heap.size u w' := fun u => clone_any x.name (HQk.out x (List.mem_of_getElem? hx)) u
      clear HT
      go_upto_region 7 with fail
      refine wp_region_noPanic ?_
      refine wp_region_held_drew (S := (fun w' => (w'.cell? ⟨X, 0, none⟩ = some (.slice (some ⟨G, 0, none⟩) n n)) ∧ (w'.cell? ⟨G, i * 2, none⟩ = some (.string x.name)))) (by kernel_rfl) (hS) (fun hHeld => ?_)
      generalize wr.drew = wd at hHeld HTd ⊢
      refine wpAnyH_take (i := 0) (v := .slice (some ⟨R, 0, none⟩) n n) rfl (by kernel_rfl) (by kernel_rfl) (by kernel_rfl) (fun _ _ _ h => h) (Or.inl ⟨by rfl, fun w hSw => by (try dsimp only at hSw); go_simp⟩) (by assumption) ?_
      try simp only [List.getElem_toArray, List.getElem_cons_zero, List.getElem_cons_succ, Act.put, List.setIfInBounds_toArray, List.set_cons_zero, List.set_cons_succ]
      refine wpAnyH_take (i := 1) (v := .int .i64 (i : Int)) rfl (by kernel_rfl) (by kernel_rfl) (by kernel_rfl) (fun _ _ _ h => h) (Or.inl ⟨by rfl, fun w hSw => by (try dsimp only at hSw); go_simp⟩) (by assumption) ?_
      try simp only [List.getElem_toArray, List.getElem_cons_zero, List.getElem_cons_succ, Act.put, List.setIfInBounds_toArray, List.set_cons_zero, List.set_cons_succ]
      refine wpAnyH_take (i := 2) (v := .pointer (some ⟨X, 0, none⟩)) rfl (by kernel_rfl) (by kernel_rfl) (by kernel_rfl) (fun _ _ _ h => h) (Or.inl ⟨by rfl, fun w hSw => by (try dsimp only at hSw); go_simp⟩) (by assumption) ?_
      try simp only [List.getElem_toArray, List.getElem_cons_zero, List.getElem_cons_succ, Act.put, List.setIfInBounds_toArray, List.set_cons_zero, List.set_cons_succ]
      refine wpAnyH_take (i := 3) (v := .pointer (some ⟨X, 0, none⟩)) rfl (by kernel_rfl) (by kernel_rfl) (by kernel_rfl) (fun _ _ _ h => h) (Or.inl ⟨by rfl, fun w hSw => by (try dsimp only at hSw); go_simp⟩) (by assumption) ?_
      try simp only [List.getElem_toArray, List.getElem_cons_zero, List.getElem_cons_succ, Act.put, List.setIfInBounds_toArray, List.set_cons_zero, List.set_cons_succ]
      refine wpAnyH_take (i := 4) (v := .pointer (some ⟨X, 0, none⟩)) rfl (by kernel_rfl) (by kernel_rfl) (by kernel_rfl) (fun _ _ _ h => h) (Or.inl ⟨by rfl, fun w hSw => by (try dsimp only at hSw); go_simp⟩) (by assumption) ?_
      try simp only [List.getElem_toArray, List.getElem_cons_zero, List.getElem_cons_succ, Act.put, List.setIfInBounds_toArray, List.set_cons_zero, List.set_cons_succ]
      refine wpAnyH_take (i := 5) (v := .slice (some ⟨G, 0, none⟩) n n) rfl (by kernel_rfl) (by kernel_rfl) (by kernel_rfl) (fun _ _ _ h => h) (Or.inl ⟨by rfl, fun w hSw => by (try dsimp only at hSw); go_simp⟩) (by assumption) ?_
      try simp only [List.getElem_toArray, List.getElem_cons_zero, List.getElem_cons_succ, Act.put, List.setIfInBounds_toArray, List.set_cons_zero, List.set_cons_succ]
      refine wpAnyH_take (i := 6) (v := .int .i64 (i : Int)) rfl (by kernel_rfl) (by kernel_rfl) (by kernel_rfl) (fun _ _ _ h => h) (Or.inl ⟨by rfl, fun w hSw => by (try dsimp only at hSw); go_simp⟩) (by assumption) ?_
      try simp only [List.getElem_toArray, List.getElem_cons_zero, List.getElem_cons_succ, Act.put, List.setIfInBounds_toArray, List.set_cons_zero, List.set_cons_succ]
      refine wpAnyH_take (i := 7) (v := .pointer (some ⟨G, i * 2, none⟩)) rfl (by kernel_rfl) (by kernel_rfl) (by kernel_rfl) (fun _ _ _ h => h) (Or.inl ⟨by rfl, fun w hSw => by (try dsimp only at hSw); go_simp⟩) (by assumption) ?_
      try simp only [List.getElem_toArray, List.getElem_cons_zero, List.getElem_cons_succ, Act.put, List.setIfInBounds_toArray, List.set_cons_zero, List.set_cons_succ]
      refine wpAnyH_take (i := 8) (v := .pointer (some ⟨G, i * 2, none⟩)) rfl (by kernel_rfl) (by kernel_rfl) (by kernel_rfl) (fun _ _ _ h => h) (Or.inl ⟨by rfl, fun w hSw => by (try dsimp only at hSw); go_simp⟩) (by assumption) ?_
      try simp only [List.getElem_toArray, List.getElem_cons_zero, List.getElem_cons_succ, Act.put, List.setIfInBounds_toArray, List.set_cons_zero, List.set_cons_succ]
      refine wpAnyH_take (i := 9) (v := .string x.name) rfl (by kernel_rfl) (by kernel_rfl) (by kernel_rfl) (fun _ _ _ h => h) (Or.inl ⟨by rfl, fun w hSw => by (try dsimp only at hSw); go_simp⟩) (by assumption) ?_
      try simp only [List.getElem_toArray, List.getElem_cons_zero, List.getElem_cons_succ, Act.put, List.setIfInBounds_toArray, List.set_cons_zero, List.set_cons_succ]
      refine wpAnyH_take (i := 11) (v := .func (.func f) #[] #[]) rfl (by kernel_rfl) (by kernel_rfl) (by kernel_rfl) (fun _ _ _ h => h) (Or.inl ⟨by rfl, fun w hSw => by (try dsimp only at hSw); go_simp⟩) (by assumption) ?_
      try simp only [List.getElem_toArray, List.getElem_cons_zero, List.getElem_cons_succ, Act.put, List.setIfInBounds_toArray, List.set_cons_zero, List.set_cons_succ]
      refine wpAnyH_take (i := 12) (v := .pointer (some ⟨X, 0, none⟩)) rfl (by kernel_rfl) (by kernel_rfl) (by kernel_rfl) (fun _ _ _ h => h) (Or.inl ⟨by rfl, fun w hSw => by (try dsimp only at hSw); go_simp⟩) (by assumption) ?_
      try simp only [List.getElem_toArray, List.getElem_cons_zero, List.getElem_cons_succ, Act.put, List.setIfInBounds_toArray, List.set_cons_zero, List.set_cons_succ]
      refine wpAnyH_take (i := 13) (v := .pointer (some ⟨X, 0, none⟩)) rfl (by kernel_rfl) (by kernel_rfl) (by kernel_rfl) (fun _ _ _ h => h) (Or.inl ⟨by rfl, fun w hSw => by (try dsimp only at hSw); go_simp⟩) (by assumption) ?_
      try simp only [List.getElem_toArray, List.getElem_cons_zero, List.getElem_cons_succ, Act.put, List.setIfInBounds_toArray, List.set_cons_zero, List.set_cons_succ]
      refine wpAnyH_take (i := 14) (v := .pointer (some ⟨X, 0, none⟩)) rfl (by kernel_rfl) (by kernel_rfl) (by kernel_rfl) (fun _ _ _ h => h) (Or.inl ⟨by rfl, fun w hSw => by (try dsimp only at hSw); go_simp⟩) (by assumption) ?_
      try simp only [List.getElem_toArray, List.getElem_cons_zero, List.getElem_cons_succ, Act.put, List.setIfInBounds_toArray, List.set_cons_zero, List.set_cons_succ]
      refine wpAnyH_take (i := 15) (v := .slice (some ⟨G, 0, none⟩) n n) rfl (by kernel_rfl) (by kernel_rfl) (by kernel_rfl) (fun _ _ _ h => h) (Or.inl ⟨by rfl, fun w hSw => by (try dsimp only at hSw); go_simp⟩) (by assumption) ?_
      try simp only [List.getElem_toArray, List.getElem_cons_zero, List.getElem_cons_succ, Act.put, List.setIfInBounds_toArray, List.set_cons_zero, List.set_cons_succ]
      refine wpAnyH_take (i := 16) (v := .int .i64 (i : Int)) rfl (by kernel_rfl) (by kernel_rfl) (by kernel_rfl) (fun _ _ _ h => h) (Or.inl ⟨by rfl, fun w hSw => by (try dsimp only at hSw); go_simp⟩) (by assumption) ?_
      try simp only [List.getElem_toArray, List.getElem_cons_zero, List.getElem_cons_succ, Act.put, List.setIfInBounds_toArray, List.set_cons_zero, List.set_cons_succ]
      refine wpAnyH_take (i := 17) (v := .pointer (some ⟨G, i * 2, none⟩)) rfl (by kernel_rfl) (by kernel_rfl) (by kernel_rfl) (fun _ _ _ h => h) (Or.inl ⟨by rfl, fun w hSw => by (try dsimp only at hSw); go_simp⟩) (by assumption) ?_
      try simp only [List.getElem_toArray, List.getElem_cons_zero, List.getElem_cons_succ, Act.put, List.setIfInBounds_toArray, List.set_cons_zero, List.set_cons_succ]
      refine wpAnyH_take (i := 18) (v := .pointer (some ⟨G, i * 2 + 1, none⟩)) rfl (by kernel_rfl) (by kernel_rfl) (by kernel_rfl) (fun _ _ _ h => h) (Or.inl ⟨by rfl, fun w hSw => by (try dsimp only at hSw); go_simp⟩) (by assumption) ?_
      try simp only [List.getElem_toArray, List.getElem_cons_zero, List.getElem_cons_succ, Act.put, List.setIfInBounds_toArray, List.set_cons_zero, List.set_cons_succ]
      refine wpAnyH_ready (rs := [10]) (by kernel_rfl) (by simp) ?_
      refine AllReadyH.cons (i := 10) rfl (fun K hK => ?_) AllReadyH.nil
      go_simp
      refine (hCl _).mono ?_
      rintro e w5 ⟨rfl, b5⟩
      have HA := hid (tlr_kept HTd.out (kept_below b5))
      have hS := (HSt.out w5 i HA.out (.inl rfl)).1
      have hRd := HRd.out i x w5 hx HA.out
      clear b5 hCl
      clear hHeld
      show K _ _
      refine hK.out _ _ (hS) (fun hHeld => ?_)
      clear hK K
      try simp only [List.getElem_toArray, List.getElem_cons_zero, List.getElem_cons_succ, Act.put, List.setIfInBounds_toArray, List.set_cons_zero, List.set_cons_succ]
      refine wpAnyH_ready (rs := [19]) (by kernel_rfl) (by simp) ?_
      refine AllReadyH.cons (i := 19) rfl (fun K hK => ?_) AllReadyH.nil
      go_simp
      rw [HEnt.out, Oper.upon_enter]
      refine (hRd).mono ?_
      rintro e w6 ⟨rfl, t6⟩
      have hS := (HSt.out w6 (i + 1) t6 (.inr rfl)).1
      obtain ⟨q0, q1⟩ := (HSt.out w6 (i + 1) t6 (.inr rfl)).2.1
      have fR := (HSt.out w6 (i + 1) t6 (.inr rfl)).2.2.1
      have HS7 := hid (HSt.out w6 (i + 1) t6 (.inr rfl)).2.2.2.1
      have HE7 := hid (HSt.out w6 (i + 1) t6 (.inr rfl)).2.2.2.2
      clear t6 hRd
      clear hHeld
      show K _ _
      refine hK.out _ _ (hS) (fun hHeld => ?_)
      clear hK K
      try simp only [List.getElem_toArray, List.getElem_cons_zero, List.getElem_cons_succ, Act.put, List.setIfInBounds_toArray, List.set_cons_zero, List.set_cons_succ]
      refine wpAnyH_take (i := 20) (v := .agg #[.string x.name, .int .u64 x.n]) rfl (by kernel_rfl) (by kernel_rfl) (by kernel_rfl) (fun _ _ _ h => h) (Or.inl ⟨by rfl, fun w hSw => by (try dsimp only at hSw); go_simp⟩) (by assumption) ?_
      try simp only [List.getElem_toArray, List.getElem_cons_zero, List.getElem_cons_succ, Act.put, List.setIfInBounds_toArray, List.set_cons_zero, List.set_cons_succ]
      refine wpAnyH_take (i := 21) (v := .pointer (some ⟨R, i * 2, none⟩)) rfl (by kernel_rfl) (by kernel_rfl) (by kernel_rfl) (fun _ _ _ h => h) (Or.inl ⟨by rfl, fun w hSw => by (try dsimp only at hSw); go_simp⟩) (by assumption) ?_
      try simp only [List.getElem_toArray, List.getElem_cons_zero, List.getElem_cons_succ, Act.put, List.setIfInBounds_toArray, List.set_cons_zero, List.set_cons_succ]
      refine wpAnyH_ready (rs := [22]) (by kernel_rfl) (by simp) ?_
      refine AllReadyH.cons (i := 22) rfl (fun K hK => ?_) AllReadyH.nil
      go_simp
      have hS := HS7.out
      clear hHeld
      show K _ _
      refine hK.out _ _ (hS) (fun hHeld => ?_)
      clear hK K
      try simp only [List.getElem_toArray, List.getElem_cons_zero, List.getElem_cons_succ, Act.put, List.setIfInBounds_toArray, List.set_cons_zero, List.set_cons_succ]
      refine wpAnyH_done (by kernel_rfl) ?_ _
      refine NoPanic.normal ?_
      clear hHeld hS q0 q1 fR
      go_wp2_with fail
      go_roundw
      case rel => exact ⟨i + 1, by omega, by go_num, HE7⟩
      case measure => simp [intOf]; omega
    · have he : i = n := by omega
      subst he
      go_wp2_with fail
      go_ret
      exact ⟨R, rfl, HT.out⟩
end Go.Proofs.Ytibidhmahjbciaa
