/- The contract of the program's Encode: the frame laid as bytes, or its error. It turns at most its own table. The body has at most 2^47 bytes. -/
import Derived.Test.YtioeidhblbfgmaaGreatY7
import Derived.Deep.RegionHeld3
import Derived.Deep.DeepCutAuto

namespace Go.Proofs.YtioeidhblbfgmaaGreat.Frm
open Go.ChangeShapes Go.WideShapes Go.ChangeAt Go.RowKit
set_option linter.unusedVariables false
set_option maxRecDepth 100000
set_option linter.unusedSimpArgs false

def encS (k f t : UInt8) (s : ByteArray) : ByteArray × Nat :=
  if 1048576 < s.size then (⟨#[]⟩, 4) else if fit k f t then (⟨(lay k f t s.data.toList).toArray⟩, 0) else (⟨#[]⟩, 1)
def frameV (k f t : UInt8) (s : ByteArray) : Value := .agg #[.int .u8 (k.toNat : Int), .int .u8 (f.toNat : Int), .int .u8 (t.toNat : Int), .string s]

theorem txt_append (a b : List UInt8) : (⟨a.toArray⟩ : ByteArray) ++ ⟨b.toArray⟩ = ⟨(a ++ b).toArray⟩ := by
  apply ByteArray.ext
  rw [ByteArray.data_append]
  simp
theorem txt_self (s : ByteArray) : (⟨s.data.toList.toArray⟩ : ByteArray) = s := by
  apply ByteArray.ext
  simp

theorem turn_alloc {b : Nat} {u w : World} {o : Obj} (h : Turn b u w) : Turn b u (w.alloc o) := h.trans (turn_below ((Below.refl _ w).alloc (Nat.le_refl _) _))
theorem turn_step {b : Nat} {u w w' : World} (h : Turn b u w) (g : Below w.heap.size w w') : Turn b u w' := h.trans (turn_below g)
theorem codec_now {c b : Nat} {u w : World} (h : Codec c b u) (g : Turn b u w) : Codec c b w := codec_turn h h.2.2.2 g
theorem held {X c b : Nat} {k f t : Int} {s : ByteArray} {u w : World} (h : Box X k f t s u) (hc : Codec c b u) (g : Turn b u w) : w.cell? ⟨X, 0, none⟩ = some (.int .u8 k) ∧ w.cell? ⟨X, 1, none⟩ = some (.int .u8 f) ∧ w.cell? ⟨X, 2, none⟩ = some (.int .u8 t) ∧ w.cell? ⟨X, 3, none⟩ = some (.string s) ∧ w.cell? ⟨c, 0, none⟩ = some (.pointer (some ⟨b, 0, none⟩)) := by
  have h1 := (box_turn h hc.2.2.2 g).2
  exact ⟨h1.1, h1.2.1, h1.2.2.1, h1.2.2.2, (codec_now hc g).2.2.1⟩
theorem sum_t (c b : Nat) (s : ByteArray) (hs : s.size ≤ maxLen) (w : World) (h : Codec c b w) :
    Calls Tryz.prog 51 #[.pointer (some ⟨b, 0, none⟩), .string s] w fun e w' => e = .returned (.int .u32 (more 0 s.data.toList : Int)) ∧ Turn b w w' :=
  (sum_any b s hs w h.2.2.2).mono fun _ _ ⟨he, hO, hM⟩ => ⟨he, turn_only hO hM⟩
theorem more_t (c b : Nat) (x : Nat) (hx : x < 4294967296) (s : ByteArray) (hs : s.size ≤ maxLen) (w : World) (h : Codec c b w) :
    Calls Tryz.prog 50 #[.pointer (some ⟨b, 0, none⟩), .int .u32 (x : Int), .string s] w fun e w' => e = .returned (.int .u32 (more x s.data.toList : Int)) ∧ Turn b w w' :=
  (more_any b x hx s hs w h.2.2.2).mono fun _ _ ⟨he, hO, hM⟩ => ⟨he, turn_only hO hM⟩
theorem head_text (k f t : UInt8) (w1 : World) (o : Nat × Nat) :
    (convert 51 9 (.slice (some ⟨w1.heap.size, 0, none⟩) 4 4)).run Tryz.prog (w1.alloc (.cells #[.int .u8 1, .int .u8 (k.toNat : Int), .int .u8 (f.toNat : Int), .int .u8 (t.toNat : Int)] 5 o)) = .ok (.string ⟨#[1, k, f, t]⟩) (w1.alloc (.cells #[.int .u8 1, .int .u8 (k.toNat : Int), .int .u8 (f.toNat : Int), .int .u8 (t.toNat : Int)] 5 o)) :=
  four_text 1 k f t rfl rfl rfl rfl (alloc_block w1 _)
theorem head_text_drew (k f t : UInt8) (w1 : World) (o : Nat × Nat) :
    (convert 51 9 (.slice (some ⟨w1.heap.size, 0, none⟩) 4 4)).run Tryz.prog (w1.alloc (.cells #[.int .u8 1, .int .u8 (k.toNat : Int), .int .u8 (f.toNat : Int), .int .u8 (t.toNat : Int)] 5 o)).drew = .ok (.string ⟨#[1, k, f, t]⟩) (w1.alloc (.cells #[.int .u8 1, .int .u8 (k.toNat : Int), .int .u8 (f.toNat : Int), .int .u8 (t.toNat : Int)] 5 o)).drew :=
  four_text 1 k f t rfl rfl rfl rfl (alloc_block w1 _)
theorem head_later (k f t : UInt8) {u w1 : World} {B : Nat} {o : Nat × Nat} (hB : Below u.heap.size u w1) (hb : u.heap[B]? = some (.cells #[.int .u8 1, .int .u8 (k.toNat : Int), .int .u8 (f.toNat : Int), .int .u8 (t.toNat : Int)] 5 o)) :
    (convert 51 9 (.slice (some ⟨B, 0, none⟩) 4 4)).run Tryz.prog w1 = .ok (.string ⟨#[1, k, f, t]⟩) w1 := by
  have hlt : B < u.heap.size := by
    rcases Nat.lt_or_ge B u.heap.size with h | h
    · exact h
    · rw [Array.getElem?_eq_none h] at hb; cases hb
  exact four_text 1 k f t rfl rfl rfl rfl ((hB.block B hlt).trans hb)
set_option maxHeartbeats 1600000 in
set_option maxRecDepth 100000 in
theorem encode_bad (c b : Nat) (k f t : UInt8) (s : ByteArray) (w : World) (hbad : encS k f t s = (⟨#[]⟩, 4) ∧ 1048576 < s.size ∨ encS k f t s = (⟨#[]⟩, 1) ∧ ¬ 1048576 < s.size ∧ ¬ fit k f t) :
    Calls Tryz.prog 20 #[.pointer (some ⟨c, 0, none⟩), frameV k f t s] w fun e w' => e = .returned (.tuple #[.string (encS k f t s).1, .int .i64 ((encS k f t s).2 : Int)]) ∧ Turn b w w' := by
  unfold frameV
  have HB : Hid (Turn b w (w.alloc (.cells #[.int .u8 (k.toNat : Int), .int .u8 (f.toNat : Int), .int .u8 (t.toNat : Int), .string s] 46))) := turn_below ((Below.refl _ w).alloc (Nat.le_refl _) _)
  rcases hbad with ⟨he, h1⟩ | ⟨he, h1, h2⟩
  · rw [he]
    have h1i : (1048576 : Int) < (s.size : Int) := by omega
    go_enter Tryz.func20, Tryz.ntmps20
    go_wp2
    go_ret2
    exact ⟨rfl, HB.out⟩
  · rw [he]
    have h1i : ¬ (1048576 : Int) < (s.size : Int) := by omega
    have hm := mayBe_any k f t
    rw [decide_eq_false h2] at hm
    clear h2
    go_enter Tryz.func20, Tryz.ntmps20
    go_wp2_with (go_at_call 48; refine (hm _).mono ?_; rintro e w1 ⟨rfl, rfl⟩)
    go_ret2
    exact ⟨rfl, HB.out⟩

set_option maxHeartbeats 1600000 in
set_option maxRecDepth 100000 in
theorem encode_good (c b : Nat) (k f t : UInt8) (s : ByteArray) (w : World) (h : Codec c b w) (h1 : ¬ 1048576 < s.size) (h2 : fit k f t) :
    Calls Tryz.prog 20 #[.pointer (some ⟨c, 0, none⟩), frameV k f t s] w fun e w' => e = .returned (.tuple #[.string ⟨(lay k f t s.data.toList).toArray⟩, .int .i64 0]) ∧ Turn b w w' := by
  unfold frameV
  have h1i : ¬ (1048576 : Int) < (s.size : Int) := by omega
  have hm := mayBe_any k f t
  rw [decide_eq_true h2] at hm
  clear h2
  have hwd := word_any s.size (by omega)
  have hwr : IntKind.u32.wrap (s.size : Int) = (s.size : Int) := by rw [IntKind.wrap_u32]; omega
  have hB := box_new w k.toNat f.toNat t.toNat s (0, 0)
  have HC : Hid (Codec c b (w.alloc (.cells #[.int .u8 (k.toNat : Int), .int .u8 (f.toNat : Int), .int .u8 (t.toNat : Int), .string s] 46))) := codec_kept h (kept_below ((Below.refl _ w).alloc (Nat.le_refl _) _))
  have HT : Hid (Turn b w (w.alloc (.cells #[.int .u8 (k.toNat : Int), .int .u8 (f.toNat : Int), .int .u8 (t.toNat : Int), .string s] 46))) := turn_below ((Below.refl _ w).alloc (Nat.le_refl _) _)
  have HB : Hid (Box w.heap.size k.toNat f.toNat t.toNat s (w.alloc (.cells #[.int .u8 (k.toNat : Int), .int .u8 (f.toNat : Int), .int .u8 (t.toNat : Int), .string s] 46))) := hB
  clear hB h
  go_enter Tryz.func20, Tryz.ntmps20
  go_wp2_with (go_at_call 48; refine (hm _).mono ?_; rintro e w1 ⟨rfl, rfl⟩)
  clear hm
  generalize w.alloc (.cells #[.int .u8 (k.toNat : Int), .int .u8 (f.toNat : Int), .int .u8 (t.toNat : Int), .string s] 46) = w0 at *
  generalize hX : w.heap.size = X at *
  clear hX
  have T0 : Turn b w0 w0 := Turn.refl b w0
  have hc1 := fun w1 => head_text k f t w1 (0, 0)
  have hc2 := fun w1 => head_text_drew k f t w1 (0, 0)
  go_cut [6] (fun h wx => h = .string ⟨([1, k, f, t] ++ be4 s.size).toArray⟩ ∧ Turn b w0 wx)
  case first =>
    refine wp_region_noPanic ?_
    refine wp_region_held_drew (S := (fun w' => w'.cell? ⟨X, 0, none⟩ = some (.int .u8 (k.toNat : Int)) ∧ w'.cell? ⟨X, 1, none⟩ = some (.int .u8 (f.toNat : Int)) ∧ w'.cell? ⟨X, 2, none⟩ = some (.int .u8 (t.toNat : Int)) ∧ w'.cell? ⟨X, 3, none⟩ = some (.string s) ∧ w'.cell? ⟨c, 0, none⟩ = some (.pointer (some ⟨b, 0, none⟩)))) (by kernel_rfl) (held HB.out HC.out (by repeat (first | with_reducible assumption | with_reducible apply turn_drew | with_reducible apply turn_alloc))) (fun hHeld => ?_)
    refine wpAnyH_take (i := 0) (v := .pointer (some ⟨X, 0, none⟩)) rfl (by kernel_rfl) (by kernel_rfl) (by kernel_rfl) (fun _ _ _ h => h) (Or.inl ⟨by rfl, fun w hSw => by (try dsimp only at hSw); go_simp⟩) (by assumption) ?_
    try simp only [List.getElem_toArray, List.getElem_cons_zero, List.getElem_cons_succ, Act.put, List.setIfInBounds_toArray, List.set_cons_zero, List.set_cons_succ]
    refine wpAnyH_take (i := 1) (v := .int .u8 (k.toNat : Int)) rfl (by kernel_rfl) (by kernel_rfl) (by kernel_rfl) (fun _ _ _ h => h) (Or.inl ⟨by rfl, fun w hSw => by (try dsimp only at hSw); go_simp⟩) (by assumption) ?_
    try simp only [List.getElem_toArray, List.getElem_cons_zero, List.getElem_cons_succ, Act.put, List.setIfInBounds_toArray, List.set_cons_zero, List.set_cons_succ]
    refine wpAnyH_take (i := 2) (v := .pointer (some ⟨X, 1, none⟩)) rfl (by kernel_rfl) (by kernel_rfl) (by kernel_rfl) (fun _ _ _ h => h) (Or.inl ⟨by rfl, fun w hSw => by (try dsimp only at hSw); go_simp⟩) (by assumption) ?_
    try simp only [List.getElem_toArray, List.getElem_cons_zero, List.getElem_cons_succ, Act.put, List.setIfInBounds_toArray, List.set_cons_zero, List.set_cons_succ]
    refine wpAnyH_take (i := 3) (v := .int .u8 (f.toNat : Int)) rfl (by kernel_rfl) (by kernel_rfl) (by kernel_rfl) (fun _ _ _ h => h) (Or.inl ⟨by rfl, fun w hSw => by (try dsimp only at hSw); go_simp⟩) (by assumption) ?_
    try simp only [List.getElem_toArray, List.getElem_cons_zero, List.getElem_cons_succ, Act.put, List.setIfInBounds_toArray, List.set_cons_zero, List.set_cons_succ]
    refine wpAnyH_take (i := 4) (v := .pointer (some ⟨X, 2, none⟩)) rfl (by kernel_rfl) (by kernel_rfl) (by kernel_rfl) (fun _ _ _ h => h) (Or.inl ⟨by rfl, fun w hSw => by (try dsimp only at hSw); go_simp⟩) (by assumption) ?_
    try simp only [List.getElem_toArray, List.getElem_cons_zero, List.getElem_cons_succ, Act.put, List.setIfInBounds_toArray, List.set_cons_zero, List.set_cons_succ]
    refine wpAnyH_take (i := 5) (v := .int .u8 (t.toNat : Int)) rfl (by kernel_rfl) (by kernel_rfl) (by kernel_rfl) (fun _ _ _ h => h) (Or.inl ⟨by rfl, fun w hSw => by (try dsimp only at hSw); go_simp⟩) (by assumption) ?_
    try simp only [List.getElem_toArray, List.getElem_cons_zero, List.getElem_cons_succ, Act.put, List.setIfInBounds_toArray, List.set_cons_zero, List.set_cons_succ]
    refine wpAnyH_take (i := 8) (v := .pointer (some ⟨X, 3, none⟩)) rfl (by kernel_rfl) (by kernel_rfl) (by kernel_rfl) (fun _ _ _ h => h) (Or.inl ⟨by rfl, fun w hSw => by (try dsimp only at hSw); go_simp⟩) (by assumption) ?_
    try simp only [List.getElem_toArray, List.getElem_cons_zero, List.getElem_cons_succ, Act.put, List.setIfInBounds_toArray, List.set_cons_zero, List.set_cons_succ]
    refine wpAnyH_take (i := 9) (v := .string s) rfl (by kernel_rfl) (by kernel_rfl) (by kernel_rfl) (fun _ _ _ h => h) (Or.inl ⟨by rfl, fun w hSw => by (try dsimp only at hSw); go_simp⟩) (by assumption) ?_
    try simp only [List.getElem_toArray, List.getElem_cons_zero, List.getElem_cons_succ, Act.put, List.setIfInBounds_toArray, List.set_cons_zero, List.set_cons_succ]
    refine wpAnyH_take (i := 10) (v := .int .i64 (s.size : Int)) rfl (by kernel_rfl) (by kernel_rfl) (by kernel_rfl) (fun _ _ _ h => h) (Or.inl ⟨by rfl, fun w hSw => by (try dsimp only at hSw); go_simp⟩) (by assumption) ?_
    try simp only [List.getElem_toArray, List.getElem_cons_zero, List.getElem_cons_succ, Act.put, List.setIfInBounds_toArray, List.set_cons_zero, List.set_cons_succ]
    refine wpAnyH_take (i := 11) (v := .int .u32 (s.size : Int)) rfl (by kernel_rfl) (by kernel_rfl) (by kernel_rfl) (fun _ _ _ h => h) (Or.inl ⟨by rfl, fun w hSw => by (try dsimp only at hSw); go_simp; try (rw [hwr])⟩) (by assumption) ?_
    try simp only [List.getElem_toArray, List.getElem_cons_zero, List.getElem_cons_succ, Act.put, List.setIfInBounds_toArray, List.set_cons_zero, List.set_cons_succ]
    refine wpAnyH_ready (rs := [6, 12]) (by kernel_rfl) (by simp) ?_
    refine AllReadyH.cons (i := 6) rfl (fun K hK => ?_) ?_
    · go_simp
      refine hK.out _ _ (held HB.out HC.out (by repeat (first | with_reducible assumption | with_reducible apply turn_drew | with_reducible apply turn_alloc))) (fun hHeld => ?_)
      clear hK K
      try simp only [List.getElem_toArray, List.getElem_cons_zero, List.getElem_cons_succ, Act.put, List.setIfInBounds_toArray, List.set_cons_zero, List.set_cons_succ]
      refine wpAnyH_ready (rs := [7, 12]) (by kernel_rfl) (by simp) ?_
      refine AllReadyH.cons (i := 7) rfl (fun K hK => ?_) ?_
      · go_simp
        refine hK.out _ _ (held HB.out HC.out (by repeat (first | with_reducible assumption | with_reducible apply turn_drew | with_reducible apply turn_alloc))) (fun hHeld => ?_)
        clear hK K
        try simp only [List.getElem_toArray, List.getElem_cons_zero, List.getElem_cons_succ, Act.put, List.setIfInBounds_toArray, List.set_cons_zero, List.set_cons_succ]
        refine wpAnyH_ready (rs := [12]) (by kernel_rfl) (by simp) ?_
        refine AllReadyH.cons (i := 12) rfl (fun K hK => ?_) AllReadyH.nil
        go_simp
        refine (hwd _).mono ?_
        rintro e w1 ⟨rfl, H1⟩
        have T1 : Turn b w0 w1 := turn_step (by repeat (first | with_reducible assumption | with_reducible apply turn_drew | with_reducible apply turn_alloc)) H1
        show K _ _
        refine hK.out _ _ (held HB.out HC.out (by repeat (first | with_reducible assumption | with_reducible apply turn_drew | with_reducible apply turn_alloc))) (fun hHeld => ?_)
        clear hK K
        try simp only [List.getElem_toArray, List.getElem_cons_zero, List.getElem_cons_succ, Act.put, List.setIfInBounds_toArray, List.set_cons_zero, List.set_cons_succ]
        refine wpAnyH_take (i := 13) (v := .string ((⟨#[1, k, f, t]⟩ : ByteArray) ++ (⟨(be4 s.size).toArray⟩ : ByteArray))) rfl (by kernel_rfl) (by kernel_rfl) (by kernel_rfl) (fun _ _ _ h => h) (Or.inl ⟨by rfl, fun w hSw => by (try dsimp only at hSw); go_simp; rw [be4_length]; omega⟩) (by assumption) ?_
        try simp only [List.getElem_toArray, List.getElem_cons_zero, List.getElem_cons_succ, Act.put, List.setIfInBounds_toArray, List.set_cons_zero, List.set_cons_succ]
        refine wpAnyH_take (i := 14) (v := .string ((⟨#[1, k, f, t]⟩ : ByteArray) ++ (⟨(be4 s.size).toArray⟩ : ByteArray))) rfl (by kernel_rfl) (by kernel_rfl) (by kernel_rfl) (fun _ _ _ h => h) (Or.inl ⟨by rfl, fun w hSw => by (try dsimp only at hSw); go_simp⟩) (by assumption) ?_
        try simp only [List.getElem_toArray, List.getElem_cons_zero, List.getElem_cons_succ, Act.put, List.setIfInBounds_toArray, List.set_cons_zero, List.set_cons_succ]
        refine wpAnyH_done (by kernel_rfl) ?_ _
        refine NoPanic.normal ?_
        go_wp2_with fail
        go_meet
        exact ⟨congrArg Value.string (txt_append [1, k, f, t] (be4 s.size)), by repeat (first | with_reducible assumption | with_reducible apply turn_drew | with_reducible apply turn_alloc)⟩
      refine AllReadyH.cons (i := 12) rfl (fun K hK => ?_) AllReadyH.nil
      go_simp
      refine (hwd _).mono ?_
      rintro e w1 ⟨rfl, H1⟩
      have hc3 := head_later k f t (B := w0.heap.size) (o := (0, 0)) H1 (alloc_block w0 _)
      have T1 : Turn b w0 w1 := turn_step (by repeat (first | with_reducible assumption | with_reducible apply turn_drew | with_reducible apply turn_alloc)) H1
      show K _ _
      refine hK.out _ _ (held HB.out HC.out (by repeat (first | with_reducible assumption | with_reducible apply turn_drew | with_reducible apply turn_alloc))) (fun hHeld => ?_)
      clear hK K
      try simp only [List.getElem_toArray, List.getElem_cons_zero, List.getElem_cons_succ, Act.put, List.setIfInBounds_toArray, List.set_cons_zero, List.set_cons_succ]
      refine wpAnyH_ready (rs := [7]) (by kernel_rfl) (by simp) ?_
      refine AllReadyH.cons (i := 7) rfl (fun K hK => ?_) AllReadyH.nil
      go_simp
      refine hK.out _ _ (held HB.out HC.out (by repeat (first | with_reducible assumption | with_reducible apply turn_drew | with_reducible apply turn_alloc))) (fun hHeld => ?_)
      clear hK K
      try simp only [List.getElem_toArray, List.getElem_cons_zero, List.getElem_cons_succ, Act.put, List.setIfInBounds_toArray, List.set_cons_zero, List.set_cons_succ]
      refine wpAnyH_take (i := 13) (v := .string ((⟨#[1, k, f, t]⟩ : ByteArray) ++ (⟨(be4 s.size).toArray⟩ : ByteArray))) rfl (by kernel_rfl) (by kernel_rfl) (by kernel_rfl) (fun _ _ _ h => h) (Or.inl ⟨by rfl, fun w hSw => by (try dsimp only at hSw); go_simp; rw [be4_length]; omega⟩) (by assumption) ?_
      try simp only [List.getElem_toArray, List.getElem_cons_zero, List.getElem_cons_succ, Act.put, List.setIfInBounds_toArray, List.set_cons_zero, List.set_cons_succ]
      refine wpAnyH_take (i := 14) (v := .string ((⟨#[1, k, f, t]⟩ : ByteArray) ++ (⟨(be4 s.size).toArray⟩ : ByteArray))) rfl (by kernel_rfl) (by kernel_rfl) (by kernel_rfl) (fun _ _ _ h => h) (Or.inl ⟨by rfl, fun w hSw => by (try dsimp only at hSw); go_simp⟩) (by assumption) ?_
      try simp only [List.getElem_toArray, List.getElem_cons_zero, List.getElem_cons_succ, Act.put, List.setIfInBounds_toArray, List.set_cons_zero, List.set_cons_succ]
      refine wpAnyH_done (by kernel_rfl) ?_ _
      refine NoPanic.normal ?_
      go_wp2_with fail
      go_meet
      exact ⟨congrArg Value.string (txt_append [1, k, f, t] (be4 s.size)), by repeat (first | with_reducible assumption | with_reducible apply turn_drew | with_reducible apply turn_alloc)⟩
    refine AllReadyH.cons (i := 12) rfl (fun K hK => ?_) AllReadyH.nil
    go_simp
    refine (hwd _).mono ?_
    rintro e w1 ⟨rfl, H1⟩
    have T1 : Turn b w0 w1 := turn_step (by repeat (first | with_reducible assumption | with_reducible apply turn_drew | with_reducible apply turn_alloc)) H1
    show K _ _
    refine hK.out _ _ (held HB.out HC.out (by repeat (first | with_reducible assumption | with_reducible apply turn_drew | with_reducible apply turn_alloc))) (fun hHeld => ?_)
    clear hK K
    try simp only [List.getElem_toArray, List.getElem_cons_zero, List.getElem_cons_succ, Act.put, List.setIfInBounds_toArray, List.set_cons_zero, List.set_cons_succ]
    refine wpAnyH_ready (rs := [6]) (by kernel_rfl) (by simp) ?_
    refine AllReadyH.cons (i := 6) rfl (fun K hK => ?_) AllReadyH.nil
    go_simp
    refine hK.out _ _ (held HB.out HC.out (by repeat (first | with_reducible assumption | with_reducible apply turn_drew | with_reducible apply turn_alloc))) (fun hHeld => ?_)
    clear hK K
    try simp only [List.getElem_toArray, List.getElem_cons_zero, List.getElem_cons_succ, Act.put, List.setIfInBounds_toArray, List.set_cons_zero, List.set_cons_succ]
    refine wpAnyH_ready (rs := [7]) (by kernel_rfl) (by simp) ?_
    refine AllReadyH.cons (i := 7) rfl (fun K hK => ?_) AllReadyH.nil
    go_simp
    refine hK.out _ _ (held HB.out HC.out (by repeat (first | with_reducible assumption | with_reducible apply turn_drew | with_reducible apply turn_alloc))) (fun hHeld => ?_)
    clear hK K
    try simp only [List.getElem_toArray, List.getElem_cons_zero, List.getElem_cons_succ, Act.put, List.setIfInBounds_toArray, List.set_cons_zero, List.set_cons_succ]
    refine wpAnyH_take (i := 13) (v := .string ((⟨#[1, k, f, t]⟩ : ByteArray) ++ (⟨(be4 s.size).toArray⟩ : ByteArray))) rfl (by kernel_rfl) (by kernel_rfl) (by kernel_rfl) (fun _ _ _ h => h) (Or.inl ⟨by rfl, fun w hSw => by (try dsimp only at hSw); go_simp; rw [be4_length]; omega⟩) (by assumption) ?_
    try simp only [List.getElem_toArray, List.getElem_cons_zero, List.getElem_cons_succ, Act.put, List.setIfInBounds_toArray, List.set_cons_zero, List.set_cons_succ]
    refine wpAnyH_take (i := 14) (v := .string ((⟨#[1, k, f, t]⟩ : ByteArray) ++ (⟨(be4 s.size).toArray⟩ : ByteArray))) rfl (by kernel_rfl) (by kernel_rfl) (by kernel_rfl) (fun _ _ _ h => h) (Or.inl ⟨by rfl, fun w hSw => by (try dsimp only at hSw); go_simp⟩) (by assumption) ?_
    try simp only [List.getElem_toArray, List.getElem_cons_zero, List.getElem_cons_succ, Act.put, List.setIfInBounds_toArray, List.set_cons_zero, List.set_cons_succ]
    refine wpAnyH_done (by kernel_rfl) ?_ _
    refine NoPanic.normal ?_
    go_wp2_with fail
    go_meet
    exact ⟨congrArg Value.string (txt_append [1, k, f, t] (be4 s.size)), by repeat (first | with_reducible assumption | with_reducible apply turn_drew | with_reducible apply turn_alloc)⟩
  case rest =>
    obtain ⟨rfl, T1⟩ := hcut
    clear hc1 hc2 hwd T0
    have hsz : Hid ((⟨([1, k, f, t] ++ be4 s.size).toArray⟩ : ByteArray).size ≤ maxLen) := by
      show ([1, k, f, t] ++ be4 s.size).toArray.size ≤ maxLen
      simp [be4_length, maxLen]
    have HM : Hid (more 0 (⟨([1, k, f, t] ++ be4 s.size).toArray⟩ : ByteArray).data.toList < 4294967296) := more_small _
    have HE : Hid (more (more 0 (⟨([1, k, f, t] ++ be4 s.size).toArray⟩ : ByteArray).data.toList) s.data.toList = more 0 (front k f t s.data.toList)) := by
      show _ = _
      rw [more_append]
      rfl
    have HL : Hid ((⟨([1, k, f, t] ++ be4 s.size).toArray⟩ : ByteArray) ++ s ++ (⟨(be4 (more 0 (front k f t s.data.toList))).toArray⟩ : ByteArray) = ⟨(lay k f t s.data.toList).toArray⟩) := by
      show _ = _
      have e : s = (⟨s.data.toList.toArray⟩ : ByteArray) := (txt_self s).symm
      rw [lay, front]
      conv => lhs; rw [e]
      rw [txt_append, txt_append]
      rfl
    have hF : more 0 (front k f t s.data.toList) < 4294967296 := more_small _
    have hA : (⟨([1, k, f, t] ++ be4 s.size).toArray⟩ : ByteArray).size + s.size ≤ 9223372036854775807 := by
      show 8 + s.size ≤ _
      omega
    have hA2 : (⟨([1, k, f, t] ++ be4 s.size).toArray⟩ : ByteArray).size + s.size + (be4 (more 0 (front k f t s.data.toList))).length ≤ 9223372036854775807 := by
      rw [be4_length]
      show 8 + s.size + 4 ≤ _
      omega
    have hs' : Hid (s.size ≤ maxLen) := by show _ ≤ _; unfold maxLen; omega
    generalize (⟨([1, k, f, t] ++ be4 s.size).toArray⟩ : ByteArray) = H at *
    generalize more 0 (front k f t s.data.toList) = R at *
    go_wp2_with fail
    go_region_held3 (fun w' => w'.cell? ⟨X, 0, none⟩ = some (.int .u8 (k.toNat : Int)) ∧ w'.cell? ⟨X, 1, none⟩ = some (.int .u8 (f.toNat : Int)) ∧ w'.cell? ⟨X, 2, none⟩ = some (.int .u8 (t.toNat : Int)) ∧ w'.cell? ⟨X, 3, none⟩ = some (.string s) ∧ w'.cell? ⟨c, 0, none⟩ = some (.pointer (some ⟨b, 0, none⟩))) (exact held HB.out HC.out (by repeat (first | with_reducible assumption | with_reducible apply turn_drew | with_reducible apply turn_alloc))) (first
      | (go_at_call 51; refine (sum_t c b H hsz.out _ (codec_now HC.out (by repeat (first | with_reducible assumption | with_reducible apply turn_drew | with_reducible apply turn_alloc)))).mono ?_; rintro e w2 ⟨rfl, H2⟩; have T2 : Turn b w0 w2 := Turn.trans (by repeat (first | with_reducible assumption | with_reducible apply turn_drew | with_reducible apply turn_alloc)) H2)
      | (go_at_call 50; refine (more_t c b _ HM.out s hs'.out _ (codec_now HC.out (by repeat (first | with_reducible assumption | with_reducible apply turn_drew | with_reducible apply turn_alloc)))).mono ?_; rintro e w3 ⟨rfl, H3⟩; have T3 : Turn b w0 w3 := Turn.trans (by repeat (first | with_reducible assumption | with_reducible apply turn_drew | with_reducible apply turn_alloc)) H3))
    rw [HE.out]
    go_wp2_with fail
    refine wp_region_noPanic ?_
    refine wp_region_held_drew (S := (fun w' => w'.cell? ⟨X, 0, none⟩ = some (.int .u8 (k.toNat : Int)) ∧ w'.cell? ⟨X, 1, none⟩ = some (.int .u8 (f.toNat : Int)) ∧ w'.cell? ⟨X, 2, none⟩ = some (.int .u8 (t.toNat : Int)) ∧ w'.cell? ⟨X, 3, none⟩ = some (.string s) ∧ w'.cell? ⟨c, 0, none⟩ = some (.pointer (some ⟨b, 0, none⟩)))) (by kernel_rfl) (held HB.out HC.out (by repeat (first | with_reducible assumption | with_reducible apply turn_drew | with_reducible apply turn_alloc))) (fun hHeld => ?_)
    refine wpAnyH_take (i := 0) (v := .string H) rfl (by kernel_rfl) (by kernel_rfl) (by kernel_rfl) (fun _ _ _ h => h) (Or.inl ⟨by rfl, fun w hSw => by (try dsimp only at hSw); go_simp⟩) (by assumption) ?_
    try simp only [List.getElem_toArray, List.getElem_cons_zero, List.getElem_cons_succ, Act.put, List.setIfInBounds_toArray, List.set_cons_zero, List.set_cons_succ]
    refine wpAnyH_take (i := 1) (v := .pointer (some ⟨X, 3, none⟩)) rfl (by kernel_rfl) (by kernel_rfl) (by kernel_rfl) (fun _ _ _ h => h) (Or.inl ⟨by rfl, fun w hSw => by (try dsimp only at hSw); go_simp⟩) (by assumption) ?_
    try simp only [List.getElem_toArray, List.getElem_cons_zero, List.getElem_cons_succ, Act.put, List.setIfInBounds_toArray, List.set_cons_zero, List.set_cons_succ]
    refine wpAnyH_take (i := 2) (v := .string s) rfl (by kernel_rfl) (by kernel_rfl) (by kernel_rfl) (fun _ _ _ h => h) (Or.inl ⟨by rfl, fun w hSw => by (try dsimp only at hSw); go_simp⟩) (by assumption) ?_
    try simp only [List.getElem_toArray, List.getElem_cons_zero, List.getElem_cons_succ, Act.put, List.setIfInBounds_toArray, List.set_cons_zero, List.set_cons_succ]
    refine wpAnyH_take (i := 3) (v := .string (H ++ s)) rfl (by kernel_rfl) (by kernel_rfl) (by kernel_rfl) (fun _ _ _ h => h) (Or.inl ⟨by rfl, fun w hSw => by (try dsimp only at hSw); go_simp⟩) (by assumption) ?_
    try simp only [List.getElem_toArray, List.getElem_cons_zero, List.getElem_cons_succ, Act.put, List.setIfInBounds_toArray, List.set_cons_zero, List.set_cons_succ]
    refine wpAnyH_take (i := 4) (v := .int .u32 (R : Int)) rfl (by kernel_rfl) (by kernel_rfl) (by kernel_rfl) (fun _ _ _ h => h) (Or.inl ⟨by rfl, fun w hSw => by (try dsimp only at hSw); go_simp⟩) (by assumption) ?_
    try simp only [List.getElem_toArray, List.getElem_cons_zero, List.getElem_cons_succ, Act.put, List.setIfInBounds_toArray, List.set_cons_zero, List.set_cons_succ]
    refine wpAnyH_ready (rs := [5]) (by kernel_rfl) (by simp) ?_
    refine AllReadyH.cons (i := 5) rfl (fun K hK => ?_) AllReadyH.nil
    go_simp
    refine (word_any R hF _).mono ?_
    rintro e w4 ⟨rfl, H4⟩
    have T4 : Turn b w0 w4 := turn_step (by repeat (first | with_reducible assumption | with_reducible apply turn_drew | with_reducible apply turn_alloc)) H4
    show K _ _
    refine hK.out _ _ (held HB.out HC.out (by repeat (first | with_reducible assumption | with_reducible apply turn_drew | with_reducible apply turn_alloc))) (fun hHeld => ?_)
    clear hK K
    try simp only [List.getElem_toArray, List.getElem_cons_zero, List.getElem_cons_succ, Act.put, List.setIfInBounds_toArray, List.set_cons_zero, List.set_cons_succ]
    refine wpAnyH_take (i := 6) (v := .string (H ++ s ++ (⟨(be4 R).toArray⟩ : ByteArray))) rfl (by kernel_rfl) (by kernel_rfl) (by kernel_rfl) (fun _ _ _ h => h) (Or.inl ⟨by rfl, fun w hSw => by (try dsimp only at hSw); go_simp⟩) (by assumption) ?_
    try simp only [List.getElem_toArray, List.getElem_cons_zero, List.getElem_cons_succ, Act.put, List.setIfInBounds_toArray, List.set_cons_zero, List.set_cons_succ]
    refine wpAnyH_take (i := 7) (v := .string (H ++ s ++ (⟨(be4 R).toArray⟩ : ByteArray))) rfl (by kernel_rfl) (by kernel_rfl) (by kernel_rfl) (fun _ _ _ h => h) (Or.inl ⟨by rfl, fun w hSw => by (try dsimp only at hSw); go_simp⟩) (by assumption) ?_
    try simp only [List.getElem_toArray, List.getElem_cons_zero, List.getElem_cons_succ, Act.put, List.setIfInBounds_toArray, List.set_cons_zero, List.set_cons_succ]
    refine wpAnyH_take (i := 8) (v := .int .i64 0) rfl (by kernel_rfl) (by kernel_rfl) (by kernel_rfl) (fun _ _ _ h => h) (Or.inl ⟨by rfl, fun w hSw => by (try dsimp only at hSw); go_simp⟩) (by assumption) ?_
    try simp only [List.getElem_toArray, List.getElem_cons_zero, List.getElem_cons_succ, Act.put, List.setIfInBounds_toArray, List.set_cons_zero, List.set_cons_succ]
    refine wpAnyH_done (by kernel_rfl) ?_ _
    refine NoPanic.normal ?_
    go_wp2_with fail
    go_ret2
    exact ⟨by rw [HL.out]; rfl, HT.out.trans T4⟩

theorem encode_any (c b : Nat) (k f t : UInt8) (s : ByteArray) (w : World) (h : Codec c b w) :
    Calls Tryz.prog 20 #[.pointer (some ⟨c, 0, none⟩), frameV k f t s] w fun e w' => e = .returned (.tuple #[.string (encS k f t s).1, .int .i64 ((encS k f t s).2 : Int)]) ∧ Turn b w w' := by
  by_cases h1 : 1048576 < s.size
  · exact encode_bad c b k f t s w (.inl ⟨by unfold encS; rw [if_pos h1], h1⟩)
  by_cases h2 : fit k f t
  · have e : encS k f t s = (⟨(lay k f t s.data.toList).toArray⟩, 0) := by unfold encS; rw [if_neg h1, if_pos h2]
    rw [e]
    exact encode_good c b k f t s w h h1 h2
  · exact encode_bad c b k f t s w (.inr ⟨by unfold encS; rw [if_neg h1, if_neg h2], h1, h2⟩)
theorem encode_nil (k f t : UInt8) (s : ByteArray) (w : World) :
    Calls Tryz.prog 20 #[.pointer none, frameV k f t s] w fun e w' => e = .returned (.tuple #[.string ⟨#[]⟩, .int .i64 1]) ∧ Kept w w' := by
  unfold frameV
  have HB : Hid (Kept w (w.alloc (.cells #[.int .u8 (k.toNat : Int), .int .u8 (f.toNat : Int), .int .u8 (t.toNat : Int), .string s] 46))) := kept_below ((Below.refl _ w).alloc (Nat.le_refl _) _)
  go_enter Tryz.func20, Tryz.ntmps20
  go_wp2
  go_ret2
  exact ⟨rfl, HB.out⟩
end Go.Proofs.YtioeidhblbfgmaaGreat.Frm
