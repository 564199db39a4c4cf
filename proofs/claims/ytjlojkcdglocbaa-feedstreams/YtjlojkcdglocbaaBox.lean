/- Commands in memory: seven cells; a command stored whole; a command as a result; rows of texts; the functions that make commands of a few parts. They turn nothing that was there. -/
import Derived.Test.YtjlojkcdglocbaaNumber
namespace Go.Proofs.Ytjlojkcdglocbaa
open Go.ChangeShapes Go.WideShapes Go.ChangeAt Go.RowKit
set_option linter.unusedVariables false
set_option linter.unusedSimpArgs false

def set7 (w : World) (G : Nat) (a0 a1 a2 a3 a4 a5 a6 : Value) : World := ((((((w.setCell ⟨G, 0, none⟩ a0).setCell ⟨G, 1, none⟩ a1).setCell ⟨G, 2, none⟩ a2).setCell ⟨G, 3, none⟩ a3).setCell ⟨G, 4, none⟩ a4).setCell ⟨G, 5, none⟩ a5).setCell ⟨G, 6, none⟩ a6
theorem at_set7 {w : World} {G T : Nat} {v0 v1 v2 v3 v4 v5 v6 : Value} (h : At w G #[v0, v1, v2, v3, v4, v5, v6] T) (a0 a1 a2 a3 a4 a5 a6 : Value) : At (set7 w G a0 a1 a2 a3 a4 a5 a6) G #[a0, a1, a2, a3, a4, a5, a6] T := by
  have h0 : At (w.setCell ⟨G, 0, none⟩ a0) G #[a0, v1, v2, v3, v4, v5, v6] T := at_set h 0 a0
  have h1 : At ((w.setCell ⟨G, 0, none⟩ a0).setCell ⟨G, 1, none⟩ a1) G #[a0, a1, v2, v3, v4, v5, v6] T := at_set h0 1 a1
  have h2 : At (((w.setCell ⟨G, 0, none⟩ a0).setCell ⟨G, 1, none⟩ a1).setCell ⟨G, 2, none⟩ a2) G #[a0, a1, a2, v3, v4, v5, v6] T := at_set h1 2 a2
  have h3 : At ((((w.setCell ⟨G, 0, none⟩ a0).setCell ⟨G, 1, none⟩ a1).setCell ⟨G, 2, none⟩ a2).setCell ⟨G, 3, none⟩ a3) G #[a0, a1, a2, a3, v4, v5, v6] T := at_set h2 3 a3
  have h4 : At (((((w.setCell ⟨G, 0, none⟩ a0).setCell ⟨G, 1, none⟩ a1).setCell ⟨G, 2, none⟩ a2).setCell ⟨G, 3, none⟩ a3).setCell ⟨G, 4, none⟩ a4) G #[a0, a1, a2, a3, a4, v5, v6] T := at_set h3 4 a4
  have h5 : At ((((((w.setCell ⟨G, 0, none⟩ a0).setCell ⟨G, 1, none⟩ a1).setCell ⟨G, 2, none⟩ a2).setCell ⟨G, 3, none⟩ a3).setCell ⟨G, 4, none⟩ a4).setCell ⟨G, 5, none⟩ a5) G #[a0, a1, a2, a3, a4, a5, v6] T := at_set h4 5 a5
  exact at_set h5 6 a6
theorem at_other7 {w : World} {G X T : Nat} {cs : Array Value} (h : At w X cs T) (hn : X ≠ G) (a0 a1 a2 a3 a4 a5 a6 : Value) : At (set7 w G a0 a1 a2 a3 a4 a5 a6) X cs T :=
  at_other (at_other (at_other (at_other (at_other (at_other (at_other h hn 0 a0) hn 1 a1) hn 2 a2) hn 3 a3) hn 4 a4) hn 5 a5) hn 6 a6
theorem kept_set7 {W w : World} (h : Kept W w) {G : Nat} (hG : W.heap.size ≤ G) (a0 a1 a2 a3 a4 a5 a6 : Value) : Kept W (set7 w G a0 a1 a2 a3 a4 a5 a6) :=
  kept_set (kept_set (kept_set (kept_set (kept_set (kept_set (kept_set h hG 0 a0) hG 1 a1) hG 2 a2) hG 3 a3) hG 4 a4) hG 5 a5) hG 6 a6
theorem zero26 (w : World) : (zeroValue 38).run Try.prog w = .ok (.agg #[.int .i64 0, .slice none 0 0, .int .u32 0, .int .i64 0, .string ⟨#[]⟩, .bool false, .string ⟨#[]⟩]) w := by kernel_rfl
theorem res1 {fn : Func} {p : Tmp} (h : fn.results = #[.cell p 38]) (tmps : Array Value) {w : World} {X T : Nat} {v0 v1 v2 v3 v4 v5 v6 : Value} (hp : tmps.getD p undef = .pointer (some ⟨X, 0, none⟩)) (hA : At w X #[v0, v1, v2, v3, v4, v5, v6] T) :
    (results fn tmps).run Try.prog w = .ok (.agg #[v0, v1, v2, v3, v4, v5, v6]) w := by
  obtain ⟨c0, c1, c2, c3, c4, c5, c6, -⟩ := at_cells7 hA
  have hp' : tmps[p]?.getD undef = .pointer (some ⟨X, 0, none⟩) := by simpa using hp
  simp [results, h, go_sem, hp', c0, c1, c2, c3, c4, c5, c6]
theorem res2 {fn : Func} {p u : Tmp} (h : fn.results = #[.cell p 38, .tmp u]) (tmps : Array Value) {w : World} {X T : Nat} {v0 v1 v2 v3 v4 v5 v6 r : Value} (hp : tmps.getD p undef = .pointer (some ⟨X, 0, none⟩)) (hu : tmps.getD u undef = r) (hA : At w X #[v0, v1, v2, v3, v4, v5, v6] T) :
    (results fn tmps).run Try.prog w = .ok (.tuple #[.agg #[v0, v1, v2, v3, v4, v5, v6], r]) w := by
  obtain ⟨c0, c1, c2, c3, c4, c5, c6, -⟩ := at_cells7 hA
  have hp' : tmps[p]?.getD undef = .pointer (some ⟨X, 0, none⟩) := by simpa using hp
  have hu' : tmps[u]?.getD undef = r := by simpa using hu
  simp [results, h, go_sem, hp', hu', c0, c1, c2, c3, c4, c5, c6]

/- A row of texts as a value. -/
def Keys (w : World) (v : Value) (K : List ByteArray) : Prop := (K = [] ∧ v = .slice none 0 0) ∨ ∃ A cap, v = .slice (some ⟨A, 0, none⟩) K.length cap ∧ A < w.heap.size ∧ ∀ i (h : i < K.length), w.cell? ⟨A, i, none⟩ = some (.string K[i])
theorem keys_nil (w : World) : Keys w (.slice none 0 0) [] := .inl ⟨rfl, rfl⟩
theorem keys_kept {w w' : World} {v : Value} {K : List ByteArray} (h : Keys w v K) (k : Kept w w') : Keys w' v K := by
  rcases h with h | ⟨A, cap, hv, hA, hc⟩
  · exact .inl h
  · exact .inr ⟨A, cap, hv, Nat.lt_of_lt_of_le hA k.2, fun i hi => (kept_cell k hA).trans (hc i hi)⟩
theorem keys_one (w : World) (s : ByteArray) (T : Nat) : Keys (w.alloc (.cells #[.string s] T)) (.slice (some ⟨w.heap.size, 0, none⟩) 1 1) [s] := by
  refine .inr ⟨w.heap.size, 1, rfl, by simp, fun i hi => ?_⟩
  have h0 : i = 0 := by simpa using hi
  subst h0
  exact at_cell (at_new w #[.string s] T) 0
theorem keys_set7 {w : World} {v : Value} {K : List ByteArray} {G : Nat} (h : Keys w v K) (hG : ∀ A n cap, v = .slice (some ⟨A, 0, none⟩) n cap → A ≠ G) (a0 a1 a2 a3 a4 a5 a6 : Value) : Keys (set7 w G a0 a1 a2 a3 a4 a5 a6) v K := by
  rcases h with h | ⟨A, cap, hv, hA, hc⟩
  · exact .inl h
  · have hn := hG A _ cap hv
    refine .inr ⟨A, cap, hv, ?_, fun i hi => ?_⟩
    · simpa [set7, World.setCell] using hA
    · rw [← hc i hi]
      apply World.cell?_of_block
      unfold set7
      iterate 7 rw [Below.heap_setCell _ _ _ _ (by exact hn)]
theorem bad_any (r : ByteArray) (w : World) :
    Calls Try.prog 41 #[.string r] w fun e w' => e = .returned (.agg #[.int .i64 8, .slice none 0 0, .int .u32 0, .int .i64 0, .string ⟨#[]⟩, .bool false, .string r]) ∧ Kept w w' := by
  have hz := zero26
  have HA : Hid (At (w.alloc (.cells #[.int .i64 8, .slice none 0 0, .int .u32 0, .int .i64 0, .string ⟨#[]⟩, .bool false, .string r] 38)) w.heap.size #[.int .i64 8, .slice none 0 0, .int .u32 0, .int .i64 0, .string ⟨#[]⟩, .bool false, .string r] 38) := at_new _ _ _
  have HK : Hid (Kept w (w.alloc (.cells #[.int .i64 8, .slice none 0 0, .int .u32 0, .int .i64 0, .string ⟨#[]⟩, .bool false, .string r] 38))) := kept_alloc (kept_refl w) _
  go_enter Try.func41, Try.ntmps41
  go_wp2
  refine bodyPost_ret (res1 rfl _ rfl HA.out) rfl ?_
  exact ⟨rfl, HK.out⟩
theorem oneKey_any (s : ByteArray) (hs : s.size ≤ 140737488355328) (w : World) :
    Calls Try.prog 57 #[.string s] w fun e w' => ∃ A, e = .returned (.slice (some ⟨A, 0, none⟩) 1 1) ∧ w.heap.size ≤ A ∧ Keys w' (.slice (some ⟨A, 0, none⟩) 1 1) [s] ∧ Kept w w' := by
  go_enter Try.func57, Try.ntmps57
  go_wp2_with (go_at_call 52; refine (clone_any s hs _).mono ?_; rintro e w1 ⟨rfl, hb1⟩)
  go_ret
  exact ⟨w1.heap.size, rfl, hb1.size, keys_one w1 s 9, kept_alloc (kept_below hb1) _⟩
theorem txt_eq (x : ByteArray) (l : List UInt8) : (x.toList == l) = decide (x = ba l) := by
  rw [Lib.toList_data, Bool.eq_iff_iff]
  simp only [beq_iff_eq, decide_eq_true_eq]
  constructor
  · rintro rfl; unfold ba; simp
  · rintro rfl; unfold ba; simp
theorem cut_other (A o n cap m : Nat) (hn : n ≠ m + 1) (hm : m ≤ 4) (w : World) :
    Calls Try.prog 54 #[.slice (some ⟨A, o, none⟩) n cap, .int .i64 (m : Int)] w fun e w' => e = .returned (.tuple #[.slice (some ⟨A, o, none⟩) n cap, .bool false]) ∧ w' = w := by
  have h1 : ((n : Int) == (m : Int) + 1) = false := by rw [beq_eq_false_iff_ne]; omega
  clear hn
  go_enter Try.func54, Try.ntmps54
  go_wp2
  go_ret2
  exact ⟨rfl, rfl⟩
theorem cut_at (A o cap m : Nat) (hm : m ≤ 4) (hc : m + 1 ≤ cap) (x : ByteArray) (w : World) (hx : w.cell? ⟨A, o + m, none⟩ = some (.string x)) :
    Calls Try.prog 54 #[.slice (some ⟨A, o, none⟩) (m + 1) cap, .int .i64 (m : Int)] w fun e w' => e = .returned (.tuple #[.slice (some ⟨A, o, none⟩) (if x = wNo then m else m + 1) cap, .bool (decide (x = wNo))]) ∧ w' = w := by
  have h1 : (((m + 1 : Nat) : Int) == (m : Int) + 1) = true := by rw [beq_iff_eq]; omega
  have h2 : (m : Int) < ((m + 1 : Nat) : Int) := by omega
  have ht := txt_eq x [110, 111, 114, 101, 112, 108, 121]
  have hw : wNo = ba [110, 111, 114, 101, 112, 108, 121] := rfl
  rw [← hw] at ht
  clear hw
  by_cases h : x = wNo
  · rw [if_pos h]
    rw [show decide (x = wNo) = true from decide_eq_true h] at ht ⊢
    clear h
    go_enter Try.func54, Try.ntmps54
    go_wp2
    go_ret2
    exact ⟨rfl, rfl⟩
  · rw [if_neg h]
    rw [show decide (x = wNo) = false from decide_eq_false h] at ht ⊢
    clear h
    go_enter Try.func54, Try.ntmps54
    go_wp2
    go_ret2
    exact ⟨rfl, rfl⟩
def dv (o : Option Nat) : Int := match o with | some n => (n : Int) | none => -1
theorem data_other (A o n cap : Nat) (h4 : n ≠ 4) (h5 : n ≠ 5) (w : World) :
    Calls Try.prog 53 #[.slice (some ⟨A, o, none⟩) n cap] w fun e w' => e = .returned (.int .i64 (-1)) ∧ w' = w := by
  have h1 : ((n : Int) != 4) = true := by simp; omega
  have h2 : ((n : Int) != 5) = true := by simp; omega
  clear h4 h5
  go_enter Try.func53, Try.ntmps53
  go_wp2
  go_ret
  exact ⟨rfl, rfl⟩
theorem data_at (A o n cap : Nat) (h45 : n = 4 ∨ n = 5) (x : ByteArray) (hs : x.size ≤ 140737488355328) (w : World) (hx : w.cell? ⟨A, o + 3, none⟩ = some (.string x)) :
    Calls Try.prog 53 #[.slice (some ⟨A, o, none⟩) n cap] w fun e w' => e = .returned (.int .i64 (dv (amt x))) ∧ w' = w := by
  have hN := amount_any x hs
  have HB : Hid (∀ n, amt x = some n → n ≤ 4294967295) := fun n h => amt_lt x n h
  rcases h45 with rfl | rfl
  · cases ha : amt x with
    | none =>
      have hN' : ∀ w, Calls Try.prog 55 #[.string x] w fun e w' => e = .returned (.tuple #[.int .u32 0, .bool false]) ∧ w' = w := by rw [ha] at hN; exact hN
      show Calls Try.prog 53 #[.slice (some ⟨A, o, none⟩) 4 cap] w fun e w' => e = .returned (.int .i64 (-1)) ∧ w' = w
      clear hN ha
      go_enter Try.func53, Try.ntmps53
      go_wp2_with (go_at_call 55; refine (hN' _).mono ?_; rintro e w ⟨rfl, rfl⟩)
      go_ret
      exact ⟨rfl, rfl⟩
    | some n =>
      have hN' : ∀ w, Calls Try.prog 55 #[.string x] w fun e w' => e = .returned (.tuple #[.int .u32 (n : Int), .bool true]) ∧ w' = w := by rw [ha] at hN; exact hN
      show Calls Try.prog 53 #[.slice (some ⟨A, o, none⟩) 4 cap] w fun e w' => e = .returned (.int .i64 (n : Int)) ∧ w' = w
      have hb := HB.out n ha
      clear hN ha
      go_enter Try.func53, Try.ntmps53
      go_wp2_with (go_at_call 55; refine (hN' _).mono ?_; rintro e w ⟨rfl, rfl⟩)
      go_ret
      exact ⟨rfl, rfl⟩
  · cases ha : amt x with
    | none =>
      have hN' : ∀ w, Calls Try.prog 55 #[.string x] w fun e w' => e = .returned (.tuple #[.int .u32 0, .bool false]) ∧ w' = w := by rw [ha] at hN; exact hN
      show Calls Try.prog 53 #[.slice (some ⟨A, o, none⟩) 5 cap] w fun e w' => e = .returned (.int .i64 (-1)) ∧ w' = w
      clear hN ha
      go_enter Try.func53, Try.ntmps53
      go_wp2_with (go_at_call 55; refine (hN' _).mono ?_; rintro e w ⟨rfl, rfl⟩)
      go_ret
      exact ⟨rfl, rfl⟩
    | some n =>
      have hN' : ∀ w, Calls Try.prog 55 #[.string x] w fun e w' => e = .returned (.tuple #[.int .u32 (n : Int), .bool true]) ∧ w' = w := by rw [ha] at hN; exact hN
      show Calls Try.prog 53 #[.slice (some ⟨A, o, none⟩) 5 cap] w fun e w' => e = .returned (.int .i64 (n : Int)) ∧ w' = w
      have hb := HB.out n ha
      clear hN ha
      go_enter Try.func53, Try.ntmps53
      go_wp2_with (go_at_call 55; refine (hN' _).mono ?_; rintro e w ⟨rfl, rfl⟩)
      go_ret
      exact ⟨rfl, rfl⟩
theorem alone_none (a : Option Addr) (k : Int) (cap : Nat) (w : World) :
    Calls Try.prog 46 #[.int .i64 k, .slice a 0 cap] w fun e w' => e = .returned (.agg #[.int .i64 k, .slice none 0 0, .int .u32 0, .int .i64 0, .string ⟨#[]⟩, .bool false, .string ⟨#[]⟩]) ∧ Kept w w' := by
  have hz := zero26
  have HA : Hid (At (w.alloc (.cells #[.int .i64 k, .slice none 0 0, .int .u32 0, .int .i64 0, .string ⟨#[]⟩, .bool false, .string ⟨#[]⟩] 38)) w.heap.size #[.int .i64 k, .slice none 0 0, .int .u32 0, .int .i64 0, .string ⟨#[]⟩, .bool false, .string ⟨#[]⟩] 38) := at_new _ _ _
  have HK : Hid (Kept w (w.alloc (.cells #[.int .i64 k, .slice none 0 0, .int .u32 0, .int .i64 0, .string ⟨#[]⟩, .bool false, .string ⟨#[]⟩] 38))) := kept_alloc (kept_refl w) _
  go_enter Try.func46, Try.ntmps46
  go_wp2
  refine bodyPost_ret (res1 rfl _ rfl HA.out) rfl ?_
  exact ⟨rfl, HK.out⟩
theorem alone_some (a : Option Addr) (k : Int) (n cap : Nat) (hn : n ≠ 0) (w : World) :
    Calls Try.prog 46 #[.int .i64 k, .slice a n cap] w fun e w' => e = .returned (.agg #[.int .i64 8, .slice none 0 0, .int .u32 0, .int .i64 0, .string ⟨#[]⟩, .bool false, .string ⟨#[67, 76, 73, 69, 78, 84, 95, 69, 82, 82, 79, 82, 32, 98, 97, 100, 32, 99, 111, 109, 109, 97, 110, 100, 32, 108, 105, 110, 101, 32, 102, 111, 114, 109, 97, 116, 13, 10]⟩]) ∧ Kept w w' := by
  have hz := zero26
  have h1 : ((n : Int) != 0) = true := by simp; omega
  clear hn
  go_enter Try.func46, Try.ntmps46
  go_wp2_with (go_at_call 41; refine (bad_any _ _).mono ?_; rintro e w2 ⟨rfl, hk2⟩; have HA := hid (at_kept (at_new w _ 38) hk2); have HK := hid (kept_trans (kept_alloc (kept_refl w) _) hk2); clear hk2; obtain ⟨c0, c1, c2, c3, c4, c5, c6, fr⟩ := at_cells7 HA.out)
  refine bodyPost_ret (res1 rfl _ rfl (at_set7 HA.out _ _ _ _ _ _ _)) rfl ?_
  exact ⟨rfl, kept_set7 HK.out (Nat.le_refl _) _ _ _ _ _ _ _⟩
/- A row of texts, from a place of a block on. -/
def Lay (w : World) (A o : Nat) (L : List ByteArray) : Prop := A < w.heap.size ∧ ∀ i (h : i < L.length), w.cell? ⟨A, o + i, none⟩ = some (.string L[i])
theorem lay_kept {w w' : World} {A o : Nat} {L : List ByteArray} (h : Lay w A o L) (k : Kept w w') : Lay w' A o L :=
  ⟨Nat.lt_of_lt_of_le h.1 k.2, fun i hi => (kept_cell k h.1).trans (h.2 i hi)⟩
theorem lay_tail {w : World} {A o : Nat} {x : ByteArray} {L : List ByteArray} (h : Lay w A o (x :: L)) : Lay w A (o + 1) L :=
  ⟨h.1, fun i hi => by
    have := h.2 (i + 1) (by simp; omega)
    rw [show o + 1 + i = o + (i + 1) by omega, this]
    simp⟩
theorem lay_at {w : World} {A o : Nat} {L : List ByteArray} (h : Lay w A o L) (i : Nat) (hi : i < L.length) : w.cell? ⟨A, o + i, none⟩ = some (.string (at' L i)) := by
  rw [h.2 i hi]
  unfold at'
  simp [List.getD, List.getElem?_eq_getElem hi]
def Short (L : List ByteArray) : Prop := ∀ x ∈ L, x.size ≤ 4294967296
theorem short_at {L : List ByteArray} (h : Short L) (i : Nat) : (at' L i).size ≤ 4294967296 := by
  unfold at'
  by_cases hi : i < L.length
  · have : L.getD i mt = L[i] := by simp [List.getD, List.getElem?_eq_getElem hi]
    rw [this]
    exact h _ (List.getElem_mem hi)
  · have : L.getD i mt = mt := by simp [List.getD, List.getElem?_eq_none (show L.length ≤ i by omega)]
    rw [this]
    decide
end Go.Proofs.Ytjlojkcdglocbaa
