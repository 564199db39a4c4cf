/- The contract of the reference's Encode: the same bytes and errors as the plain function's. It turns nothing that was there. The body has at most 2^47 bytes. -/
import Derived.Test.YtioeidhblbfgmaaGreatY33

namespace Go.Proofs.YtioeidhblbfgmaaGreat.Frm
open Go.ChangeShapes Go.WideShapes Go.ChangeAt Go.RowKit
set_option linter.unusedVariables false
set_option maxRecDepth 100000
set_option linter.unusedSimpArgs false

theorem kept_alloc {u w : World} {o : Obj} (h : Kept u w) : Kept u (w.alloc o) := kept_trans h (kept_below ((Below.refl _ w).alloc (Nat.le_refl _) _))
theorem kept_drew {u w : World} (h : Kept u w) : Kept u w.drew := h
theorem held4 {X : Nat} {k f t : Int} {s : ByteArray} {u w : World} (h : Box X k f t s u) (g : Kept u w) : w.cell? ⟨X, 0, none⟩ = some (.int .u8 k) ∧ w.cell? ⟨X, 1, none⟩ = some (.int .u8 f) ∧ w.cell? ⟨X, 2, none⟩ = some (.int .u8 t) ∧ w.cell? ⟨X, 3, none⟩ = some (.string s) := (box_kept h g).2
set_option maxHeartbeats 1600000 in
set_option maxRecDepth 100000 in
theorem refEncode_long (k f t : UInt8) (s : ByteArray) (w : World) (h1 : 1048576 < s.size) :
    Calls Tryz.prog 22 #[.agg #[.int .u8 (k.toNat : Int), .int .u8 (f.toNat : Int), .int .u8 (t.toNat : Int), .string s]] w fun e w' => e = .returned (.tuple #[.string ⟨#[]⟩, .int .i64 4]) ∧ Kept w w' := by
  have HB : Hid (Kept w (w.alloc (.cells #[.int .u8 (k.toNat : Int), .int .u8 (f.toNat : Int), .int .u8 (t.toNat : Int), .string s] 46))) := kept_alloc (kept_refl w)
  have h1i : (1048576 : Int) < (s.size : Int) := by omega
  go_enter Tryz.func22, Tryz.ntmps22
  go_wp2
  go_ret2
  exact ⟨rfl, HB.out⟩
set_option maxHeartbeats 1600000 in
set_option maxRecDepth 100000 in
theorem refEncode_unfit (k f t : UInt8) (s : ByteArray) (w : World) (h1 : ¬ 1048576 < s.size) (h2 : ¬ fit k f t) :
    Calls Tryz.prog 22 #[.agg #[.int .u8 (k.toNat : Int), .int .u8 (f.toNat : Int), .int .u8 (t.toNat : Int), .string s]] w fun e w' => e = .returned (.tuple #[.string ⟨#[]⟩, .int .i64 1]) ∧ Kept w w' := by
  have HB : Hid (Kept w (w.alloc (.cells #[.int .u8 (k.toNat : Int), .int .u8 (f.toNat : Int), .int .u8 (t.toNat : Int), .string s] 46))) := kept_alloc (kept_refl w)
  have h1i : ¬ (1048576 : Int) < (s.size : Int) := by omega
  unfold fit at h2
  clear h1
  by_cases c1 : (k.toNat : Int) = 0
  · clear h2
    go_enter Tryz.func22, Tryz.ntmps22
    go_wp2
    go_ret2
    exact ⟨rfl, kept_alloc (kept_refl w)⟩
  by_cases c2 : (14 : Int) < (k.toNat : Int)
  · clear h2
    go_enter Tryz.func22, Tryz.ntmps22
    go_wp2
    go_ret2
    exact ⟨rfl, HB.out⟩
  by_cases c3 : (63 : Int) < (f.toNat : Int)
  · clear h2
    go_enter Tryz.func22, Tryz.ntmps22
    go_wp2
    go_ret2
    exact ⟨rfl, HB.out⟩
  have c4 : (63 : Int) < (t.toNat : Int) := by omega
  clear h2
  go_enter Tryz.func22, Tryz.ntmps22
  go_wp2
  go_ret2
  exact ⟨rfl, HB.out⟩
set_option maxHeartbeats 1600000 in
set_option maxRecDepth 100000 in
theorem refEncode_good (k f t : UInt8) (s : ByteArray) (w : World) (h1 : ¬ 1048576 < s.size) (h2 : fit k f t) :
    Calls Tryz.prog 22 #[.agg #[.int .u8 (k.toNat : Int), .int .u8 (f.toNat : Int), .int .u8 (t.toNat : Int), .string s]] w fun e w' => e = .returned (.tuple #[.string ⟨(lay k f t s.data.toList).toArray⟩, .int .i64 0]) ∧ Kept w w' := by
  have h1i : ¬ (1048576 : Int) < (s.size : Int) := by omega
  have hs6 : s.size ≤ 1048576 := by omega
  unfold fit at h2
  have c1 : ¬ (k.toNat : Int) = 0 := by omega
  have c2 : ¬ (14 : Int) < (k.toNat : Int) := by omega
  have c3 : ¬ (63 : Int) < (f.toNat : Int) := by omega
  have c4 : ¬ (63 : Int) < (t.toNat : Int) := by omega
  clear h2 h1
  have hwd := four_any s.size (by omega)
  have hwr : IntKind.u32.wrap (s.size : Int) = (s.size : Int) := by rw [IntKind.wrap_u32]; omega
  have HB : Hid (Box w.heap.size k.toNat f.toNat t.toNat s (w.alloc (.cells #[.int .u8 (k.toNat : Int), .int .u8 (f.toNat : Int), .int .u8 (t.toNat : Int), .string s] 46))) := box_new w k.toNat f.toNat t.toNat s (0, 0)
  have HK : Hid (Kept w (w.alloc (.cells #[.int .u8 (k.toNat : Int), .int .u8 (f.toNat : Int), .int .u8 (t.toNat : Int), .string s] 46))) := kept_alloc (kept_refl w)
  have HP : Hid ((⟨#[1, k, f, t]⟩ : ByteArray) ++ (⟨(be4 s.size).toArray⟩ : ByteArray) ++ s = ⟨(front k f t s.data.toList).toArray⟩) := by
    show _ = _
    have e : s = (⟨s.data.toList.toArray⟩ : ByteArray) := (txt_self s).symm
    rw [front]
    conv => lhs; rw [e]
    have e2 : (⟨#[1, k, f, t]⟩ : ByteArray) = ⟨([1, k, f, t] : List UInt8).toArray⟩ := rfl
    rw [e2, txt_append, txt_append]
    rfl
  go_enter Tryz.func22, Tryz.ntmps22
  go_wp2
  clear c1 c2 c3 c4
  generalize w.alloc (.cells #[.int .u8 (k.toNat : Int), .int .u8 (f.toNat : Int), .int .u8 (t.toNat : Int), .string s] 46) = w0 at *
  generalize hX : w.heap.size = X at *
  clear hX
  have K0 : Kept w0 w0 := kept_refl w0
  have hc1 := fun w1 => head_text k f t w1 (0, 0)
  have hc2 := fun w1 => head_text_drew k f t w1 (0, 0)
  go_cut [4] (fun h wx => h = .string ⟨(front k f t s.data.toList).toArray⟩ ∧ Kept w0 wx)
  case first =>
    refine wp_region_noPanic ?_
    refine wp_region_held_drew (S := (fun w' => w'.cell? ⟨X, 0, none⟩ = some (.int .u8 (k.toNat : Int)) ∧ w'.cell? ⟨X, 1, none⟩ = some (.int .u8 (f.toNat : Int)) ∧ w'.cell? ⟨X, 2, none⟩ = some (.int .u8 (t.toNat : Int)) ∧ w'.cell? ⟨X, 3, none⟩ = some (.string s))) (by kernel_rfl) (held4 HB.out (by repeat (first | with_reducible assumption | with_reducible apply kept_drew | with_reducible apply kept_alloc))) (fun hHeld => ?_)
    refine wpAnyH_take (i := 0) (v := .pointer (some ⟨X, 0, none⟩)) rfl (by kernel_rfl) (by kernel_rfl) (by kernel_rfl) (fun _ _ _ h => h) (Or.inl ⟨by rfl, fun w hSw => by (try dsimp only at hSw); go_simp⟩) (by assumption) ?_
    try simp only [List.getElem_toArray, List.getElem_cons_zero, List.getElem_cons_succ, Act.put, List.setIfInBounds_toArray, List.set_cons_zero, List.set_cons_succ]
    refine wpAnyH_take (i := 1) (v := .int .u8 (k.toNat : Int)) rfl (by kernel_rfl) (by kernel_rfl) (by kernel_rfl) (fun _ _ _ h => h) (Or.inl ⟨by rfl, fun w hSw => by (try dsimp only at hSw); go_simp⟩) (by assumption) ?_
    try simp only [List.getElem_toArray, List.getElem_cons_zero, List.getElem_cons_succ, Act.put, List.setIfInBounds_toArray, List.set_cons_zero, List.set_cons_succ]
    refine wpAnyH_take (i := 2) (v := .pointer (some ⟨X, 1, none⟩)) rfl (by kernel_rfl) (by kernel_rfl) (by kernel_rfl) (fun _ _ _ h => h) (Or.inl ⟨by rfl, fun w hSw => by (try dsimp only at hSw); go_simp⟩) (by assumption) ?_
    try simp only [List.getElem_toArray, List.getElem_cons_zero, List.getElem_cons_succ, Act.put, List.setIfInBounds_toArray, List.set_cons_zero, List.set_cons_succ]
    refine wpAnyH_take (i := 3) (v := .int .u8 (f.toNat : Int)) rfl (by kernel_rfl) (by kernel_rfl) (by kernel_rfl) (fun _ _ _ h => h) (Or.inl ⟨by rfl, fun w hSw => by (try dsimp only at hSw); go_simp⟩) (by assumption) ?_
    try simp only [List.getElem_toArray, List.getElem_cons_zero, List.getElem_cons_succ, Act.put, List.setIfInBounds_toArray, List.set_cons_zero, List.set_cons_succ]
    refine wpAnyH_take (i := 4) (v := .pointer (some ⟨X, 2, none⟩)) rfl (by kernel_rfl) (by kernel_rfl) (by kernel_rfl) (fun _ _ _ h => h) (Or.inl ⟨by rfl, fun w hSw => by (try dsimp only at hSw); go_simp⟩) (by assumption) ?_
    try simp only [List.getElem_toArray, List.getElem_cons_zero, List.getElem_cons_succ, Act.put, List.setIfInBounds_toArray, List.set_cons_zero, List.set_cons_succ]
    refine wpAnyH_take (i := 5) (v := .int .u8 (t.toNat : Int)) rfl (by kernel_rfl) (by kernel_rfl) (by kernel_rfl) (fun _ _ _ h => h) (Or.inl ⟨by rfl, fun w hSw => by (try dsimp only at hSw); go_simp⟩) (by assumption) ?_
    try simp only [List.getElem_toArray, List.getElem_cons_zero, List.getElem_cons_succ, Act.put, List.setIfInBounds_toArray, List.set_cons_zero, List.set_cons_succ]
    refine wpAnyH_take (i := 8) (v := .pointer (some ⟨X, 3, none⟩)) rfl (by kernel_rfl) (by kernel_rfl) (by kernel_rfl) (fun _ _ _ h => h) (Or.inl ⟨by rfl, fun w hSw => by (try dsimp only at hSw); go_simp⟩) (by assumption) ?_
    try simp only [List.getElem_toArray, List.getElem_cons_zero, List.getElem_cons_succ, Act.put, List.setIfInBounds_toArray, List.set_cons_zero, List.set_cons_succ]
    refine wpAnyH_take (i := 9) (v := .string s) rfl (by kernel_rfl) (by kernel_rfl) (by kernel_rfl) (fun _ _ _ h => h) (Or.inl ⟨by rfl, fun w hSw => by (try dsimp only at hSw); go_simp⟩) (by assumption) ?_
    try simp only [List.getElem_toArray, List.getElem_cons_zero, List.getElem_cons_succ, Act.put, List.setIfInBounds_toArray, List.set_cons_zero, List.set_cons_succ]
    refine wpAnyH_take (i := 10) (v := .int .i64 (s.size : Int)) rfl (by kernel_rfl) (by kernel_rfl) (by kernel_rfl) (fun _ _ _ h => h) (Or.inl ⟨by rfl, fun w hSw => by (try dsimp only at hSw); go_simp⟩) (by assumption) ?_
    try simp only [List.getElem_toArray, List.getElem_cons_zero, List.getElem_cons_succ, Act.put, List.setIfInBounds_toArray, List.set_cons_zero, List.set_cons_succ]
    refine wpAnyH_take (i := 11) (v := .int .u32 (s.size : Int)) rfl (by kernel_rfl) (by kernel_rfl) (by kernel_rfl) (fun _ _ _ h => h) (Or.inl ⟨by rfl, fun w hSw => by (try dsimp only at hSw); go_simp; try (rw [hwr])⟩) (by assumption) ?_
    try simp only [List.getElem_toArray, List.getElem_cons_zero, List.getElem_cons_succ, Act.put, List.setIfInBounds_toArray, List.set_cons_zero, List.set_cons_succ]
    refine wpAnyH_take (i := 14) (v := .pointer (some ⟨X, 3, none⟩)) rfl (by kernel_rfl) (by kernel_rfl) (by kernel_rfl) (fun _ _ _ h => h) (Or.inl ⟨by rfl, fun w hSw => by (try dsimp only at hSw); go_simp⟩) (by assumption) ?_
    try simp only [List.getElem_toArray, List.getElem_cons_zero, List.getElem_cons_succ, Act.put, List.setIfInBounds_toArray, List.set_cons_zero, List.set_cons_succ]
    refine wpAnyH_take (i := 15) (v := .string s) rfl (by kernel_rfl) (by kernel_rfl) (by kernel_rfl) (fun _ _ _ h => h) (Or.inl ⟨by rfl, fun w hSw => by (try dsimp only at hSw); go_simp⟩) (by assumption) ?_
    try simp only [List.getElem_toArray, List.getElem_cons_zero, List.getElem_cons_succ, Act.put, List.setIfInBounds_toArray, List.set_cons_zero, List.set_cons_succ]
    refine wpAnyH_ready (rs := [6, 12]) (by kernel_rfl) (by simp) ?_
    refine AllReadyH.cons (i := 6) rfl (fun K hK => ?_) ?_
    · go_simp
      refine hK.out _ _ (held4 HB.out (by repeat (first | with_reducible assumption | with_reducible apply kept_drew | with_reducible apply kept_alloc))) (fun hHeld => ?_)
      clear hK K
      try simp only [List.getElem_toArray, List.getElem_cons_zero, List.getElem_cons_succ, Act.put, List.setIfInBounds_toArray, List.set_cons_zero, List.set_cons_succ]
      refine wpAnyH_ready (rs := [7, 12]) (by kernel_rfl) (by simp) ?_
      refine AllReadyH.cons (i := 7) rfl (fun K hK => ?_) ?_
      · go_simp
        refine hK.out _ _ (held4 HB.out (by repeat (first | with_reducible assumption | with_reducible apply kept_drew | with_reducible apply kept_alloc))) (fun hHeld => ?_)
        clear hK K
        try simp only [List.getElem_toArray, List.getElem_cons_zero, List.getElem_cons_succ, Act.put, List.setIfInBounds_toArray, List.set_cons_zero, List.set_cons_succ]
        refine wpAnyH_ready (rs := [12]) (by kernel_rfl) (by simp) ?_
        refine AllReadyH.cons (i := 12) rfl (fun K hK => ?_) AllReadyH.nil
        go_simp
        refine (hwd _).mono ?_
        rintro e w1 ⟨rfl, H1⟩
        have K1 : Kept w0 w1 := kept_trans (by repeat (first | with_reducible assumption | with_reducible apply kept_drew | with_reducible apply kept_alloc)) (kept_below H1)
        show K _ _
        refine hK.out _ _ (held4 HB.out (by repeat (first | with_reducible assumption | with_reducible apply kept_drew | with_reducible apply kept_alloc))) (fun hHeld => ?_)
        clear hK K
        try simp only [List.getElem_toArray, List.getElem_cons_zero, List.getElem_cons_succ, Act.put, List.setIfInBounds_toArray, List.set_cons_zero, List.set_cons_succ]
        refine wpAnyH_take (i := 13) (v := .string ((⟨#[1, k, f, t]⟩ : ByteArray) ++ (⟨(be4 s.size).toArray⟩ : ByteArray))) rfl (by kernel_rfl) (by kernel_rfl) (by kernel_rfl) (fun _ _ _ h => h) (Or.inl ⟨by rfl, fun w hSw => by (try dsimp only at hSw); go_simp; rw [be4_length]; omega⟩) (by assumption) ?_
        try simp only [List.getElem_toArray, List.getElem_cons_zero, List.getElem_cons_succ, Act.put, List.setIfInBounds_toArray, List.set_cons_zero, List.set_cons_succ]
        refine wpAnyH_take (i := 16) (v := .string ((⟨#[1, k, f, t]⟩ : ByteArray) ++ (⟨(be4 s.size).toArray⟩ : ByteArray) ++ s)) rfl (by kernel_rfl) (by kernel_rfl) (by kernel_rfl) (fun _ _ _ h => h) (Or.inl ⟨by rfl, fun w hSw => by (try dsimp only at hSw); go_simp; first | omega | (rw [be4_length]; omega)⟩) (by assumption) ?_
        try simp only [List.getElem_toArray, List.getElem_cons_zero, List.getElem_cons_succ, Act.put, List.setIfInBounds_toArray, List.set_cons_zero, List.set_cons_succ]
        refine wpAnyH_take (i := 17) (v := .string ((⟨#[1, k, f, t]⟩ : ByteArray) ++ (⟨(be4 s.size).toArray⟩ : ByteArray) ++ s)) rfl (by kernel_rfl) (by kernel_rfl) (by kernel_rfl) (fun _ _ _ h => h) (Or.inl ⟨by rfl, fun w hSw => by (try dsimp only at hSw); go_simp⟩) (by assumption) ?_
        try simp only [List.getElem_toArray, List.getElem_cons_zero, List.getElem_cons_succ, Act.put, List.setIfInBounds_toArray, List.set_cons_zero, List.set_cons_succ]
        refine wpAnyH_done (by kernel_rfl) ?_ _
        refine NoPanic.normal ?_
        go_wp2_with fail
        go_meet
        exact ⟨congrArg Value.string HP.out, by repeat (first | with_reducible assumption | with_reducible apply kept_drew | with_reducible apply kept_alloc)⟩
      refine AllReadyH.cons (i := 12) rfl (fun K hK => ?_) AllReadyH.nil
      go_simp
      refine (hwd _).mono ?_
      rintro e w1 ⟨rfl, H1⟩
      have hc3 := head_later k f t (B := w0.heap.size) (o := (0, 0)) H1 (alloc_block w0 _)
      have K1 : Kept w0 w1 := kept_trans (by repeat (first | with_reducible assumption | with_reducible apply kept_drew | with_reducible apply kept_alloc)) (kept_below H1)
      show K _ _
      refine hK.out _ _ (held4 HB.out (by repeat (first | with_reducible assumption | with_reducible apply kept_drew | with_reducible apply kept_alloc))) (fun hHeld => ?_)
      clear hK K
      try simp only [List.getElem_toArray, List.getElem_cons_zero, List.getElem_cons_succ, Act.put, List.setIfInBounds_toArray, List.set_cons_zero, List.set_cons_succ]
      refine wpAnyH_ready (rs := [7]) (by kernel_rfl) (by simp) ?_
      refine AllReadyH.cons (i := 7) rfl (fun K hK => ?_) AllReadyH.nil
      go_simp
      refine hK.out _ _ (held4 HB.out (by repeat (first | with_reducible assumption | with_reducible apply kept_drew | with_reducible apply kept_alloc))) (fun hHeld => ?_)
      clear hK K
      try simp only [List.getElem_toArray, List.getElem_cons_zero, List.getElem_cons_succ, Act.put, List.setIfInBounds_toArray, List.set_cons_zero, List.set_cons_succ]
      refine wpAnyH_take (i := 13) (v := .string ((⟨#[1, k, f, t]⟩ : ByteArray) ++ (⟨(be4 s.size).toArray⟩ : ByteArray))) rfl (by kernel_rfl) (by kernel_rfl) (by kernel_rfl) (fun _ _ _ h => h) (Or.inl ⟨by rfl, fun w hSw => by (try dsimp only at hSw); go_simp; rw [be4_length]; omega⟩) (by assumption) ?_
      try simp only [List.getElem_toArray, List.getElem_cons_zero, List.getElem_cons_succ, Act.put, List.setIfInBounds_toArray, List.set_cons_zero, List.set_cons_succ]
      refine wpAnyH_take (i := 16) (v := .string ((⟨#[1, k, f, t]⟩ : ByteArray) ++ (⟨(be4 s.size).toArray⟩ : ByteArray) ++ s)) rfl (by kernel_rfl) (by kernel_rfl) (by kernel_rfl) (fun _ _ _ h => h) (Or.inl ⟨by rfl, fun w hSw => by (try dsimp only at hSw); go_simp; first | omega | (rw [be4_length]; omega)⟩) (by assumption) ?_
      try simp only [List.getElem_toArray, List.getElem_cons_zero, List.getElem_cons_succ, Act.put, List.setIfInBounds_toArray, List.set_cons_zero, List.set_cons_succ]
      refine wpAnyH_take (i := 17) (v := .string ((⟨#[1, k, f, t]⟩ : ByteArray) ++ (⟨(be4 s.size).toArray⟩ : ByteArray) ++ s)) rfl (by kernel_rfl) (by kernel_rfl) (by kernel_rfl) (fun _ _ _ h => h) (Or.inl ⟨by rfl, fun w hSw => by (try dsimp only at hSw); go_simp⟩) (by assumption) ?_
      try simp only [List.getElem_toArray, List.getElem_cons_zero, List.getElem_cons_succ, Act.put, List.setIfInBounds_toArray, List.set_cons_zero, List.set_cons_succ]
      refine wpAnyH_done (by kernel_rfl) ?_ _
      refine NoPanic.normal ?_
      go_wp2_with fail
      go_meet
      exact ⟨congrArg Value.string HP.out, by repeat (first | with_reducible assumption | with_reducible apply kept_drew | with_reducible apply kept_alloc)⟩
    refine AllReadyH.cons (i := 12) rfl (fun K hK => ?_) AllReadyH.nil
    go_simp
    refine (hwd _).mono ?_
    rintro e w1 ⟨rfl, H1⟩
    have K1 : Kept w0 w1 := kept_trans (by repeat (first | with_reducible assumption | with_reducible apply kept_drew | with_reducible apply kept_alloc)) (kept_below H1)
    show K _ _
    refine hK.out _ _ (held4 HB.out (by repeat (first | with_reducible assumption | with_reducible apply kept_drew | with_reducible apply kept_alloc))) (fun hHeld => ?_)
    clear hK K
    try simp only [List.getElem_toArray, List.getElem_cons_zero, List.getElem_cons_succ, Act.put, List.setIfInBounds_toArray, List.set_cons_zero, List.set_cons_succ]
    refine wpAnyH_ready (rs := [6]) (by kernel_rfl) (by simp) ?_
    refine AllReadyH.cons (i := 6) rfl (fun K hK => ?_) AllReadyH.nil
    go_simp
    refine hK.out _ _ (held4 HB.out (by repeat (first | with_reducible assumption | with_reducible apply kept_drew | with_reducible apply kept_alloc))) (fun hHeld => ?_)
    clear hK K
    try simp only [List.getElem_toArray, List.getElem_cons_zero, List.getElem_cons_succ, Act.put, List.setIfInBounds_toArray, List.set_cons_zero, List.set_cons_succ]
    refine wpAnyH_ready (rs := [7]) (by kernel_rfl) (by simp) ?_
    refine AllReadyH.cons (i := 7) rfl (fun K hK => ?_) AllReadyH.nil
    go_simp
    refine hK.out _ _ (held4 HB.out (by repeat (first | with_reducible assumption | with_reducible apply kept_drew | with_reducible apply kept_alloc))) (fun hHeld => ?_)
    clear hK K
    try simp only [List.getElem_toArray, List.getElem_cons_zero, List.getElem_cons_succ, Act.put, List.setIfInBounds_toArray, List.set_cons_zero, List.set_cons_succ]
    refine wpAnyH_take (i := 13) (v := .string ((⟨#[1, k, f, t]⟩ : ByteArray) ++ (⟨(be4 s.size).toArray⟩ : ByteArray))) rfl (by kernel_rfl) (by kernel_rfl) (by kernel_rfl) (fun _ _ _ h => h) (Or.inl ⟨by rfl, fun w hSw => by (try dsimp only at hSw); go_simp; rw [be4_length]; omega⟩) (by assumption) ?_
    try simp only [List.getElem_toArray, List.getElem_cons_zero, List.getElem_cons_succ, Act.put, List.setIfInBounds_toArray, List.set_cons_zero, List.set_cons_succ]
    refine wpAnyH_take (i := 16) (v := .string ((⟨#[1, k, f, t]⟩ : ByteArray) ++ (⟨(be4 s.size).toArray⟩ : ByteArray) ++ s)) rfl (by kernel_rfl) (by kernel_rfl) (by kernel_rfl) (fun _ _ _ h => h) (Or.inl ⟨by rfl, fun w hSw => by (try dsimp only at hSw); go_simp; first | omega | (rw [be4_length]; omega)⟩) (by assumption) ?_
    try simp only [List.getElem_toArray, List.getElem_cons_zero, List.getElem_cons_succ, Act.put, List.setIfInBounds_toArray, List.set_cons_zero, List.set_cons_succ]
    refine wpAnyH_take (i := 17) (v := .string ((⟨#[1, k, f, t]⟩ : ByteArray) ++ (⟨(be4 s.size).toArray⟩ : ByteArray) ++ s)) rfl (by kernel_rfl) (by kernel_rfl) (by kernel_rfl) (fun _ _ _ h => h) (Or.inl ⟨by rfl, fun w hSw => by (try dsimp only at hSw); go_simp⟩) (by assumption) ?_
    try simp only [List.getElem_toArray, List.getElem_cons_zero, List.getElem_cons_succ, Act.put, List.setIfInBounds_toArray, List.set_cons_zero, List.set_cons_succ]
    refine wpAnyH_done (by kernel_rfl) ?_ _
    refine NoPanic.normal ?_
    go_wp2_with fail
    go_meet
    exact ⟨congrArg Value.string HP.out, by repeat (first | with_reducible assumption | with_reducible apply kept_drew | with_reducible apply kept_alloc)⟩
  case rest =>
    obtain ⟨rfl, K1⟩ := hcut
    clear hc1 hc2 hwd K0 HP
    have hsz : Hid ((⟨(front k f t s.data.toList).toArray⟩ : ByteArray).size ≤ maxLen) := by
      show (front k f t s.data.toList).toArray.size ≤ maxLen
      rw [List.size_toArray, front_length, toList_size]; unfold maxLen; omega
    have hM := more_small (front k f t s.data.toList)
    have HL : Hid ((⟨(front k f t s.data.toList).toArray⟩ : ByteArray) ++ (⟨(be4 (more 0 (front k f t s.data.toList))).toArray⟩ : ByteArray) = ⟨(lay k f t s.data.toList).toArray⟩) := by
      show _ = _
      rw [txt_append]; rfl
    have hRS : ∀ w, Calls Tryz.prog 66 #[.string ⟨(front k f t s.data.toList).toArray⟩] w fun e w' => e = .returned (.int .u32 (more 0 (front k f t s.data.toList) : Int)) ∧ w' = w := fun w => refsum_any _ hsz.out w
    have hA2 : (⟨(front k f t s.data.toList).toArray⟩ : ByteArray).size + (be4 (more 0 (front k f t s.data.toList))).length ≤ 9223372036854775807 := by
      rw [be4_length]
      show (front k f t s.data.toList).toArray.size + 4 ≤ _
      rw [List.size_toArray, front_length, toList_size]; omega
    generalize more 0 (front k f t s.data.toList) = R at *
    generalize (⟨(front k f t s.data.toList).toArray⟩ : ByteArray) = P at *
    go_wp2_with fail
    refine (hRS _).mono ?_
    rintro e w2 ⟨rfl, rfl⟩
    clear hRS
    go_wp2_with fail
    refine (four_any R hM _).mono ?_
    rintro e w3 ⟨rfl, H3⟩
    go_wp2_with fail
    go_ret2
    exact ⟨by rw [HL.out]; rfl, kept_trans HK.out (kept_trans K1 (kept_below H3))⟩
theorem refEncode_any (k f t : UInt8) (s : ByteArray) (w : World) :
    Calls Tryz.prog 22 #[.agg #[.int .u8 (k.toNat : Int), .int .u8 (f.toNat : Int), .int .u8 (t.toNat : Int), .string s]] w fun e w' => e = .returned (.tuple #[.string (encS k f t s).1, .int .i64 ((encS k f t s).2 : Int)]) ∧ Kept w w' := by
  by_cases h1 : 1048576 < s.size
  · have e : encS k f t s = (⟨#[]⟩, 4) := by unfold encS; rw [if_pos h1]
    rw [e]
    exact refEncode_long k f t s w h1
  by_cases h2 : fit k f t
  · rw [enc_of k f t s (by omega) h2]
    exact refEncode_good k f t s w h1 h2
  · have e : encS k f t s = (⟨#[]⟩, 1) := by unfold encS; rw [if_neg h1, if_neg h2]
    rw [e]
    exact refEncode_unfit k f t s w h1 h2
end Go.Proofs.YtioeidhblbfgmaaGreat.Frm
