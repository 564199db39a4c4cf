/- The contracts of the landed newsMay, seenMay, allMay. Texts have at most as many bytes as a text may have. -/
import Derived.Test.YtioeidhblbfgmaaGreatY16
import Derived.Test.YtioeidhblbfgmaaGreatY15

namespace Go.Proofs.YtioeidhblbfgmaaGreat
open Go.ChangeShapes Go.WideShapes Go.ChangeAt Go.RowKit
set_option linter.unusedVariables false
set_option linter.unusedSimpArgs false
set_option maxRecDepth 100000

def EntersL (g : Nat) : Prop := ∀ (args : Array Value) (w : World), (callFunc g args).run Tryz.prog w = .ok (.enter g args) w
/- The first one. -/
def fstL {α : Type} (p : α → Bool) (l : List α) (i : Nat) : Prop := i < l.length ∧ (∃ q, l[i]? = some q ∧ p q = true) ∧ ∀ (j : Nat) (q : α), j < i → l[j]? = some q → p q = false
def IdxL {α : Type} (p : α → Bool) (l : List α) (w : World) (e : Ending) (w' : World) : Prop := ∃ z, e = .returned (.int .i64 z) ∧ ((z = -1 ∧ ∀ (j : Nat) (q : α), l[j]? = some q → p q = false) ∨ ∃ i : Nat, z = (i : Int) ∧ fstL p l i) ∧ Kept w w'
theorem anyL_no {α : Type} {p : α → Bool} {l : List α} (h : ∀ (j : Nat) (q : α), l[j]? = some q → p q = false) : l.any p = false := by
  rw [List.any_eq_false]
  intro q hq
  obtain ⟨j, hj⟩ := List.mem_iff_getElem?.1 hq
  rw [h j q hj]
  simp
theorem anyL_fst {α : Type} {p : α → Bool} {l : List α} {i : Nat} (h : fstL p l i) : l.any p = true := by
  obtain ⟨_, ⟨q, hq, hp⟩, _⟩ := h
  rw [List.any_eq_true]
  exact ⟨q, List.mem_of_getElem? hq, hp⟩
theorem allL {α : Type} (p : α → Bool) : ∀ l : List α, l.all p = !(l.any fun x => !(p x))
  | [] => rfl
  | x :: l => by rw [List.all_cons, List.any_cons, allL p l]; cases p x <;> rfl
theorem ldKeyMay (q : ByteArray) (hq : q.size ≤ maxLen) (u : World) : Calls Tryz.prog 43 #[.string q] u fun e u' => e = .returned (.bool (keyMay q)) ∧ Kept u u' :=
  (KeyMay_any q hq u).mono (by rintro e u' ⟨rfl, rfl⟩; exact ⟨rfl, kept_refl _⟩)
theorem ldRecMay (r : R) (hk : r.key.size ≤ maxLen) (hb : r.body.size ≤ maxLen) (u : World) : Calls Tryz.prog 45 #[.agg #[.string r.key, .int .u64 r.s.p, .int .u32 r.s.l, .int .u8 r.s.n, .int .u8 r.kind, .int .u32 r.flags, .int .u64 r.exp, .string r.body]] u fun e u' => e = .returned (.bool (mayR r)) ∧ Kept u u' := May_any r hk hb u
set_option maxHeartbeats 1600000 in
theorem ldNewsMay_any (x : Nw) (w : World) : Calls Tryz.prog 41 #[.agg #[.int .u8 x.node, .int .u8 x.st, .int .u32 x.inc]] w fun e w' => e = .returned (.bool (mayN x)) ∧ Kept w w' := by
  have HE : Hid (mayN x = (decide (x.node < 64) && (decide (1 ≤ x.st) && decide (x.st ≤ 4)))) := hid rfl
  have HK := hid (kept_alloc (kept_refl w) (.cells #[.int .u8 x.node, .int .u8 x.st, .int .u32 x.inc] 79))
  obtain ⟨b0, b1, b2, -⟩ := at_cells3 (at_new w #[.int .u8 x.node, .int .u8 x.st, .int .u32 x.inc] 79)
  generalize mayN x = out at *
  by_cases h1 : x.node < 64
  · have _ := h1
    by_cases h2 : 1 ≤ x.st
    · have _ := h2
      by_cases h3 : x.st ≤ 4
      · have _ := h3
        have HO : Hid (true = out) := hid (by rw [HE.out]; simp [h1, h2, h3])
        clear HE
        go_enter Tryz.func41, Tryz.ntmps41
        go_wp2_with fail
        go_ret
        exact ⟨ret_bool HO.out, HK.out⟩
      · have _ := h3
        have HO : Hid (false = out) := hid (by rw [HE.out]; simp [h1, h2, h3])
        have hdec : decide (x.st ≤ 4) = false := decide_eq_false h3
        clear HE
        go_enter Tryz.func41, Tryz.ntmps41
        go_wp2_with fail
        go_ret
        exact ⟨ret_bool HO.out, HK.out⟩
    · have _ := h2
      have HO : Hid (false = out) := hid (by rw [HE.out]; simp [h1, h2])
      have hdec : decide (1 ≤ x.st) = false := decide_eq_false h2
      clear HE
      go_enter Tryz.func41, Tryz.ntmps41
      go_wp2_with fail
      go_ret
      exact ⟨ret_bool HO.out, HK.out⟩
  · have _ := h1
    have HO : Hid (false = out) := hid (by rw [HE.out]; simp [h1])
    have hdec : decide (x.node < 64) = false := decide_eq_false h1
    clear HE
    go_enter Tryz.func41, Tryz.ntmps41
    go_wp2_with fail
    go_ret
    exact ⟨ret_bool HO.out, HK.out⟩
set_option maxHeartbeats 3200000 in
theorem ldSeenMay_any (x : Sn) (hk : x.key.size ≤ maxLen) (w : World) : Calls Tryz.prog 47 #[.agg #[.string x.key, .int .u64 x.s.p, .int .u32 x.s.l, .int .u8 x.s.n, .int .u8 x.kind]] w fun e w' => e = .returned (.bool (mayS x)) ∧ Kept w w' := by
  have HE : Hid (mayS x = (keyMay x.key && (decide (x.s.p ≤ 281474976710655) && (decide (x.s.n < 64) && (decide (1 ≤ x.kind) && decide (x.kind ≤ 3)))))) := hid rfl
  have HK := hid (kept_alloc (kept_refl w) (.cells #[.string x.key, .int .u64 x.s.p, .int .u32 x.s.l, .int .u8 x.s.n, .int .u8 x.kind] 59))
  obtain ⟨b0, b1, b2, b3, b4, -⟩ := at_cells5 (at_new w #[.string x.key, .int .u64 x.s.p, .int .u32 x.s.l, .int .u8 x.s.n, .int .u8 x.kind] 59)
  have hM := fun u => KeyMay_any x.key hk u
  generalize mayS x = out at *
  cases h0 : keyMay x.key with
  | false =>
    rw [h0] at hM
    have HO : Hid (false = out) := hid (by rw [HE.out, h0]; rfl)
    clear HE hk h0
    go_enter Tryz.func47, Tryz.ntmps47
    go_wp2_with fail
    refine (hM _).mono ?_
    rintro e w1 ⟨rfl, rfl⟩
    go_wp2_with fail
    go_ret
    exact ⟨ret_bool HO.out, HK.out⟩
  | true =>
    rw [h0] at hM
    have HE2 : Hid (out = (decide (x.s.p ≤ 281474976710655) && (decide (x.s.n < 64) && (decide (1 ≤ x.kind) && decide (x.kind ≤ 3))))) := hid (by rw [HE.out, h0]; rfl)
    clear HE hk h0
    by_cases h1 : x.s.p ≤ 281474976710655
    · have _ := h1
      by_cases h2 : x.s.n < 64
      · have _ := h2
        by_cases h3 : 1 ≤ x.kind
        · have _ := h3
          by_cases h4 : x.kind ≤ 3
          · have _ := h4
            have HO : Hid (true = out) := hid (by rw [HE2.out]; simp [h1, h2, h3, h4])
            clear HE2
            go_enter Tryz.func47, Tryz.ntmps47
            go_wp2_with fail
            refine (hM _).mono ?_
            rintro e w1 ⟨rfl, rfl⟩
            go_wp2_with fail
            go_ret
            exact ⟨ret_bool HO.out, HK.out⟩
          · have _ := h4
            have HO : Hid (false = out) := hid (by rw [HE2.out]; simp [h1, h2, h3, h4])
            have hdec : decide (x.kind ≤ 3) = false := decide_eq_false h4
            clear HE2
            go_enter Tryz.func47, Tryz.ntmps47
            go_wp2_with fail
            refine (hM _).mono ?_
            rintro e w1 ⟨rfl, rfl⟩
            go_wp2_with fail
            go_ret
            exact ⟨ret_bool HO.out, HK.out⟩
        · have _ := h3
          have HO : Hid (false = out) := hid (by rw [HE2.out]; simp [h1, h2, h3])
          have hdec : decide (1 ≤ x.kind) = false := decide_eq_false h3
          clear HE2
          go_enter Tryz.func47, Tryz.ntmps47
          go_wp2_with fail
          refine (hM _).mono ?_
          rintro e w1 ⟨rfl, rfl⟩
          go_wp2_with fail
          go_ret
          exact ⟨ret_bool HO.out, HK.out⟩
      · have _ := h2
        have HO : Hid (false = out) := hid (by rw [HE2.out]; simp [h1, h2])
        have hdec : decide (x.s.n < 64) = false := decide_eq_false h2
        clear HE2
        go_enter Tryz.func47, Tryz.ntmps47
        go_wp2_with fail
        refine (hM _).mono ?_
        rintro e w1 ⟨rfl, rfl⟩
        go_wp2_with fail
        go_ret
        exact ⟨ret_bool HO.out, HK.out⟩
    · have _ := h1
      have HO : Hid (false = out) := hid (by rw [HE2.out]; simp [h1])
      have hdec : decide (x.s.p ≤ 281474976710655) = false := decide_eq_false h1
      clear HE2
      go_enter Tryz.func47, Tryz.ntmps47
      go_wp2_with fail
      refine (hM _).mono ?_
      rintro e w1 ⟨rfl, rfl⟩
      go_wp2_with fail
      go_ret
      exact ⟨ret_bool HO.out, HK.out⟩
def PredN (g : Nat) (c : Value) (p : Nw → Bool) (l : List Nw) (w : World) : Prop := ∀ (u : World) (q : Nw), q ∈ l → Kept w u → Calls Tryz.prog g #[.agg #[.int .u8 q.node, .int .u8 q.st, .int .u32 q.inc], c] u fun e u' => e = .returned (.bool (p q)) ∧ Kept u u'
set_option maxHeartbeats 1600000 in
theorem ldIdxN {g : Nat} {c : Value} {p : Nw → Bool} {l : List Nw} (eg : EntersL g) (hl : l.length ≤ 4611686018427387904) (v : Value) (w : World) (h : Rg encN 3 w v l) (hp : PredN g c p l w) :
    Calls Tryz.prog 109 #[v, .func (.func g) #[] #[c]] w (IdxL p l w) := by
  have HR := hid h
  have HP := hid hp
  obtain ⟨a, cap, rfl, -, -, -, -⟩ := h
  have HG : Hid (∀ k : Nat, k < l.length → ∃ y, l[k]? = some y) := hid (fun k hk => ⟨l[k], List.getElem?_eq_getElem hk⟩)
  have HQ : Hid (0 < l.length → ∃ g o, a = some ⟨g, o, none⟩) := hid (fun hp => by
    obtain ⟨g, o, c, e⟩ := rg_pos HR.out hp
    injection e with e1
    exact ⟨g, o, e1⟩)
  have HL : Hid (∀ (j : Nat) (q : Nw), l[j]? = some q → j < l.length) := hid (fun j q hj => (List.getElem?_eq_some_iff.1 hj).1)
  have eg2 : ∀ (args : Array Value) (w : World), (callFunc g args).run Tryz.prog w = .ok (.enter g args) w := eg
  clear hp eg
  generalize hnn : l.length = n at *
  go_enter Tryz.func109, Tryz.ntmps109
  go_wp2_with fail
  go_loopw [8] (fun j wr => ∃ k : Nat, k ≤ n ∧ j = .int .i64 (k : Int) ∧ Hid (∀ (j : Nat) (q : Nw), j < k → l[j]? = some q → p q = false) ∧ Hid (Kept w wr)) (fun j _ => n - (intOf j).toNat)
  case atStart => exact ⟨0, Nat.zero_le _, rfl, hid (fun j q hj => by omega), hid (kept_refl w)⟩
  case round =>
    obtain ⟨k, hk, rfl, HN, HK⟩ := hrel
    by_cases hlt : k < n
    · have hltz : (k : Int) < (n : Int) := by omega
      obtain ⟨y, hy⟩ := HG.out k hlt
      obtain ⟨g1, o, rfl⟩ := HQ.out (by omega)
      obtain ⟨c0, c1, c2⟩ := rg_N (rg_kept encN_ok HR.out HK.out) hy
      have hC := HP.out wr y (List.mem_of_getElem? hy) HK.out
      have HY := hid hy
      clear hy
      cases hb : p y with
      | false =>
        rw [hb] at hC
        have HB := hid hb
        clear hb
        go_wp2_with fail
        refine hC.mono ?_
        rintro e w1 ⟨rfl, k1⟩
        have HK1 := hid (kept_trans HK.out k1)
        clear k1 hC c0 c1 c2
        go_wp2_with fail
        go_roundw
        case rel =>
          refine ⟨k + 1, by omega, by go_num, hid (fun j q h1 h2 => ?_), HK1⟩
          by_cases e : j = k
          · subst e
            rw [HY.out] at h2
            injection h2 with h2
            rw [← h2]; exact HB.out
          · exact HN.out j q (by omega) h2
        case measure => simp [intOf]; omega
      | true =>
        rw [hb] at hC
        have HB := hid hb
        clear hb
        go_wp2_with fail
        refine hC.mono ?_
        rintro e w1 ⟨rfl, k1⟩
        have HK1 := hid (kept_trans HK.out k1)
        clear k1 hC c0 c1 c2
        go_wp2_with fail
        go_ret
        exact ⟨_, rfl, .inr ⟨k, rfl, by rw [hnn]; exact hlt, ⟨y, HY.out, HB.out⟩, HN.out⟩, HK1.out⟩
    · have hltz : ¬ (k : Int) < (n : Int) := by omega
      go_wp2_with fail
      go_ret
      exact ⟨_, rfl, .inl ⟨rfl, fun j q hj => HN.out j q (by have := HL.out j q hj; omega) hj⟩, HK.out⟩
theorem ldContN {g : Nat} {c : Value} {p : Nw → Bool} {l : List Nw} (eg : EntersL g) (hl : l.length ≤ 4611686018427387904) (v : Value) (w : World) (h : Rg encN 3 w v l) (hp : PredN g c p l w) :
    Calls Tryz.prog 78 #[v, .func (.func g) #[] #[c]] w fun e w' => e = .returned (.bool (l.any p)) ∧ Kept w w' := by
  have hI := ldIdxN eg hl v w h hp
  obtain ⟨a, cap, rfl, -, -, -, -⟩ := h
  clear hp eg hl
  go_enter Tryz.func78, Tryz.ntmps78
  go_wp2_with fail
  refine hI.mono ?_
  rintro e w1 ⟨z, rfl, hz, k1⟩
  have HK1 := hid k1
  clear k1 hI
  rcases hz with ⟨rfl, hall⟩ | ⟨i, rfl, hf⟩
  · have HA := hid (anyL_no hall)
    clear hall
    go_wp2_with fail
    go_ret
    exact ⟨ret_bool HA.out.symm, HK1.out⟩
  · have HA := hid (anyL_fst hf)
    have hi : ¬ (i : Int) < 0 := by omega
    have hi2 : (0 : Int) ≤ (i : Int) := by omega
    clear hf
    go_wp2_with fail
    go_ret
    exact ⟨ret_bool HA.out.symm, HK1.out⟩
set_option maxHeartbeats 1600000 in
theorem ldAllN (l : List Nw) (hm : ∀ x ∈ l, True) (v : Value) (w : World) (h : Rg encN 3 w v l) :
    Calls Tryz.prog 40 #[v, .func (.func 41) #[] #[]] w fun e w' => e = .returned (.bool (decide (l.length ≤ 4096) && l.all mayN)) ∧ Kept w w' := by
  have HR := hid h
  obtain ⟨a, cap, rfl, -, -, -, -⟩ := h
  have HK := hid (kept_alloc (kept_refl w) (.cells #[.func (.func 41) #[] #[]] 91))
  have hA := at_new w #[.func (.func 41) #[] #[]] 91
  have HA := hid hA
  have hC := fun (hl : l.length ≤ 4611686018427387904) => ldContN (g := 79) (c := .pointer (some ⟨w.heap.size, 0, none⟩)) (p := fun x => !(mayN x)) (l := l) (fun _ _ => by kernel_rfl) hl (.slice a l.length cap) (w.alloc (.cells #[.func (.func 41) #[] #[]] 91)) (rg_kept encN_ok HR.out HK.out) (fun u q hq ku => by
    have c0 : u.cell? ⟨w.heap.size, 0, none⟩ = some (.func (.func 41) #[] #[]) := at_cell (at_kept HA.out ku) 0
    have HM := hid (fun (z : World) => (fun _ => ldNewsMay_any q) (hm q hq) z)
    have k2 := hid (kept_alloc (kept_refl u) (.cells #[.int .u8 q.node, .int .u8 q.st, .int .u32 q.inc] 79))
    have c1 := hid (at_new u #[.int .u8 q.node, .int .u8 q.st, .int .u32 q.inc] 79)
    have c2 : (u.alloc (.cells #[.int .u8 q.node, .int .u8 q.st, .int .u32 q.inc] 79)).cell? ⟨w.heap.size, 0, none⟩ = some (.func (.func 41) #[] #[]) := at_cell (at_alloc (at_kept HA.out ku) _) 0
    have HW : Hid (w.heap.size < u.heap.size) := hid (at_lt (at_kept HA.out ku))
    generalize w.heap.size = Z at *
    obtain ⟨d0, d1, d2, -⟩ := at_cells3 c1.out
    clear hm ku HA hA HK HR
    go_enter Tryz.func79, Tryz.ntmps79
    go_wp2_with fail
    refine (HM.out _).mono ?_
    rintro e u1 ⟨rfl, k1⟩
    have K1 : Hid (Kept u u1) := by first | exact hid (kept_trans k2.out k1) | exact hid k1
    clear k1
    go_wp2_with fail
    go_ret
    exact ⟨rfl, K1.out⟩)
  have HF : Hid (decide (l.length ≤ 4096) = true → (decide (l.length ≤ 4096) && l.all mayN) = !(l.any fun x => !(mayN x))) := hid (fun e => by rw [e, Bool.true_and]; exact allL mayN l)
  have HG : Hid (¬ l.length ≤ 4096 → (decide (l.length ≤ 4096) && l.all mayN) = false) := hid (fun e => by rw [decide_eq_false e]; rfl)
  generalize (decide (l.length ≤ 4096) && l.all mayN) = out at *
  generalize l.any (fun x => !(mayN x)) = an at *
  have hc0 := at_cell hA 0
  clear hm hA HA HR
  by_cases hn : l.length ≤ 4096
  · have HO := hid (HF.out (decide_eq_true hn))
    have hz : (l.length : Int) ≤ 4096 := by omega
    clear HF HG
    go_enter Tryz.func40, Tryz.ntmps40
    have hmf : ∀ (fn : Fn) (first cap : Array Value) (w : World), (Instr.makeFunc fn first cap).run Tryz.prog w = .ok (.func fn first cap) w := fun _ _ _ _ => rfl
    go_wp2_with fail
    refine (hC (by omega)).mono ?_
    rintro e w1 ⟨rfl, k1⟩
    have K1 := hid (kept_trans HK.out k1)
    clear k1 hC hc0
    go_wp2_with fail
    go_ret
    exact ⟨ret_bool HO.out.symm, K1.out⟩
  · have HO := hid (HG.out hn)
    have hz : ¬ (l.length : Int) ≤ 4096 := by omega
    clear HF HG hC
    go_enter Tryz.func40, Tryz.ntmps40
    go_wp2_with fail
    go_ret
    exact ⟨ret_bool HO.out.symm, HK.out⟩

def PredK (g : Nat) (c : Value) (p : ByteArray → Bool) (l : List ByteArray) (w : World) : Prop := ∀ (u : World) (q : ByteArray), q ∈ l → Kept w u → Calls Tryz.prog g #[.string q, c] u fun e u' => e = .returned (.bool (p q)) ∧ Kept u u'
set_option maxHeartbeats 1600000 in
theorem ldIdxK {g : Nat} {c : Value} {p : ByteArray → Bool} {l : List ByteArray} (eg : EntersL g) (hl : l.length ≤ 4611686018427387904) (v : Value) (w : World) (h : Rg encK 1 w v l) (hp : PredK g c p l w) :
    Calls Tryz.prog 110 #[v, .func (.func g) #[] #[c]] w (IdxL p l w) := by
  have HR := hid h
  have HP := hid hp
  obtain ⟨a, cap, rfl, -, -, -, -⟩ := h
  have HG : Hid (∀ k : Nat, k < l.length → ∃ y, l[k]? = some y) := hid (fun k hk => ⟨l[k], List.getElem?_eq_getElem hk⟩)
  have HQ : Hid (0 < l.length → ∃ g o, a = some ⟨g, o, none⟩) := hid (fun hp => by
    obtain ⟨g, o, c, e⟩ := rg_pos HR.out hp
    injection e with e1
    exact ⟨g, o, e1⟩)
  have HL : Hid (∀ (j : Nat) (q : ByteArray), l[j]? = some q → j < l.length) := hid (fun j q hj => (List.getElem?_eq_some_iff.1 hj).1)
  have eg2 : ∀ (args : Array Value) (w : World), (callFunc g args).run Tryz.prog w = .ok (.enter g args) w := eg
  clear hp eg
  generalize hnn : l.length = n at *
  go_enter Tryz.func110, Tryz.ntmps110
  go_wp2_with fail
  go_loopw [8] (fun j wr => ∃ k : Nat, k ≤ n ∧ j = .int .i64 (k : Int) ∧ Hid (∀ (j : Nat) (q : ByteArray), j < k → l[j]? = some q → p q = false) ∧ Hid (Kept w wr)) (fun j _ => n - (intOf j).toNat)
  case atStart => exact ⟨0, Nat.zero_le _, rfl, hid (fun j q hj => by omega), hid (kept_refl w)⟩
  case round =>
    obtain ⟨k, hk, rfl, HN, HK⟩ := hrel
    by_cases hlt : k < n
    · have hltz : (k : Int) < (n : Int) := by omega
      obtain ⟨y, hy⟩ := HG.out k hlt
      obtain ⟨g1, o, rfl⟩ := HQ.out (by omega)
      have c0 := rg_K (rg_kept encK_ok HR.out HK.out) hy
      have hC := HP.out wr y (List.mem_of_getElem? hy) HK.out
      have HY := hid hy
      clear hy
      cases hb : p y with
      | false =>
        rw [hb] at hC
        have HB := hid hb
        clear hb
        go_wp2_with fail
        refine hC.mono ?_
        rintro e w1 ⟨rfl, k1⟩
        have HK1 := hid (kept_trans HK.out k1)
        clear k1 hC c0
        go_wp2_with fail
        go_roundw
        case rel =>
          refine ⟨k + 1, by omega, by go_num, hid (fun j q h1 h2 => ?_), HK1⟩
          by_cases e : j = k
          · subst e
            rw [HY.out] at h2
            injection h2 with h2
            rw [← h2]; exact HB.out
          · exact HN.out j q (by omega) h2
        case measure => simp [intOf]; omega
      | true =>
        rw [hb] at hC
        have HB := hid hb
        clear hb
        go_wp2_with fail
        refine hC.mono ?_
        rintro e w1 ⟨rfl, k1⟩
        have HK1 := hid (kept_trans HK.out k1)
        clear k1 hC c0
        go_wp2_with fail
        go_ret
        exact ⟨_, rfl, .inr ⟨k, rfl, by rw [hnn]; exact hlt, ⟨y, HY.out, HB.out⟩, HN.out⟩, HK1.out⟩
    · have hltz : ¬ (k : Int) < (n : Int) := by omega
      go_wp2_with fail
      go_ret
      exact ⟨_, rfl, .inl ⟨rfl, fun j q hj => HN.out j q (by have := HL.out j q hj; omega) hj⟩, HK.out⟩
theorem ldContK {g : Nat} {c : Value} {p : ByteArray → Bool} {l : List ByteArray} (eg : EntersL g) (hl : l.length ≤ 4611686018427387904) (v : Value) (w : World) (h : Rg encK 1 w v l) (hp : PredK g c p l w) :
    Calls Tryz.prog 80 #[v, .func (.func g) #[] #[c]] w fun e w' => e = .returned (.bool (l.any p)) ∧ Kept w w' := by
  have hI := ldIdxK eg hl v w h hp
  obtain ⟨a, cap, rfl, -, -, -, -⟩ := h
  clear hp eg hl
  go_enter Tryz.func80, Tryz.ntmps80
  go_wp2_with fail
  refine hI.mono ?_
  rintro e w1 ⟨z, rfl, hz, k1⟩
  have HK1 := hid k1
  clear k1 hI
  rcases hz with ⟨rfl, hall⟩ | ⟨i, rfl, hf⟩
  · have HA := hid (anyL_no hall)
    clear hall
    go_wp2_with fail
    go_ret
    exact ⟨ret_bool HA.out.symm, HK1.out⟩
  · have HA := hid (anyL_fst hf)
    have hi : ¬ (i : Int) < 0 := by omega
    have hi2 : (0 : Int) ≤ (i : Int) := by omega
    clear hf
    go_wp2_with fail
    go_ret
    exact ⟨ret_bool HA.out.symm, HK1.out⟩
set_option maxHeartbeats 1600000 in
theorem ldAllK (l : List ByteArray) (hm : ∀ x ∈ l, x.size ≤ maxLen) (v : Value) (w : World) (h : Rg encK 1 w v l) :
    Calls Tryz.prog 42 #[v, .func (.func 43) #[] #[]] w fun e w' => e = .returned (.bool (decide (l.length ≤ 4096) && l.all keyMay)) ∧ Kept w w' := by
  have HR := hid h
  obtain ⟨a, cap, rfl, -, -, -, -⟩ := h
  have HK := hid (kept_alloc (kept_refl w) (.cells #[.func (.func 43) #[] #[]] 44))
  have hA := at_new w #[.func (.func 43) #[] #[]] 44
  have HA := hid hA
  have hC := fun (hl : l.length ≤ 4611686018427387904) => ldContK (g := 81) (c := .pointer (some ⟨w.heap.size, 0, none⟩)) (p := fun x => !(keyMay x)) (l := l) (fun _ _ => by kernel_rfl) hl (.slice a l.length cap) (w.alloc (.cells #[.func (.func 43) #[] #[]] 44)) (rg_kept encK_ok HR.out HK.out) (fun u q hq ku => by
    have c0 : u.cell? ⟨w.heap.size, 0, none⟩ = some (.func (.func 43) #[] #[]) := at_cell (at_kept HA.out ku) 0
    have HM := hid (fun (z : World) => (fun h => ldKeyMay q h) (hm q hq) z)
    have k2 := hid (kept_alloc (kept_refl u) (.cells #[.string q] 9))
    have c1 := hid (at_new u #[.string q] 9)
    have c2 : (u.alloc (.cells #[.string q] 9)).cell? ⟨w.heap.size, 0, none⟩ = some (.func (.func 43) #[] #[]) := at_cell (at_alloc (at_kept HA.out ku) _) 0
    have HW : Hid (w.heap.size < u.heap.size) := hid (at_lt (at_kept HA.out ku))
    generalize w.heap.size = Z at *
    have d0 := at_cell c1.out 0
    clear hm ku HA hA HK HR
    go_enter Tryz.func81, Tryz.ntmps81
    go_wp2_with fail
    refine (HM.out _).mono ?_
    rintro e u1 ⟨rfl, k1⟩
    have K1 : Hid (Kept u u1) := by first | exact hid (kept_trans k2.out k1) | exact hid k1
    clear k1
    go_wp2_with fail
    go_ret
    exact ⟨rfl, K1.out⟩)
  have HF : Hid (decide (l.length ≤ 4096) = true → (decide (l.length ≤ 4096) && l.all keyMay) = !(l.any fun x => !(keyMay x))) := hid (fun e => by rw [e, Bool.true_and]; exact allL keyMay l)
  have HG : Hid (¬ l.length ≤ 4096 → (decide (l.length ≤ 4096) && l.all keyMay) = false) := hid (fun e => by rw [decide_eq_false e]; rfl)
  generalize (decide (l.length ≤ 4096) && l.all keyMay) = out at *
  generalize l.any (fun x => !(keyMay x)) = an at *
  have hc0 := at_cell hA 0
  clear hm hA HA HR
  by_cases hn : l.length ≤ 4096
  · have HO := hid (HF.out (decide_eq_true hn))
    have hz : (l.length : Int) ≤ 4096 := by omega
    clear HF HG
    go_enter Tryz.func42, Tryz.ntmps42
    have hmf : ∀ (fn : Fn) (first cap : Array Value) (w : World), (Instr.makeFunc fn first cap).run Tryz.prog w = .ok (.func fn first cap) w := fun _ _ _ _ => rfl
    go_wp2_with fail
    refine (hC (by omega)).mono ?_
    rintro e w1 ⟨rfl, k1⟩
    have K1 := hid (kept_trans HK.out k1)
    clear k1 hC hc0
    go_wp2_with fail
    go_ret
    exact ⟨ret_bool HO.out.symm, K1.out⟩
  · have HO := hid (HG.out hn)
    have hz : ¬ (l.length : Int) ≤ 4096 := by omega
    clear HF HG hC
    go_enter Tryz.func42, Tryz.ntmps42
    go_wp2_with fail
    go_ret
    exact ⟨ret_bool HO.out.symm, HK.out⟩

def PredR (g : Nat) (c : Value) (p : R → Bool) (l : List R) (w : World) : Prop := ∀ (u : World) (q : R), q ∈ l → Kept w u → Calls Tryz.prog g #[.agg #[.string q.key, .int .u64 q.s.p, .int .u32 q.s.l, .int .u8 q.s.n, .int .u8 q.kind, .int .u32 q.flags, .int .u64 q.exp, .string q.body], c] u fun e u' => e = .returned (.bool (p q)) ∧ Kept u u'
set_option maxHeartbeats 1600000 in
theorem ldIdxR {g : Nat} {c : Value} {p : R → Bool} {l : List R} (eg : EntersL g) (hl : l.length ≤ 4611686018427387904) (v : Value) (w : World) (h : Rg encR 8 w v l) (hp : PredR g c p l w) :
    Calls Tryz.prog 111 #[v, .func (.func g) #[] #[c]] w (IdxL p l w) := by
  have HR := hid h
  have HP := hid hp
  obtain ⟨a, cap, rfl, -, -, -, -⟩ := h
  have HG : Hid (∀ k : Nat, k < l.length → ∃ y, l[k]? = some y) := hid (fun k hk => ⟨l[k], List.getElem?_eq_getElem hk⟩)
  have HQ : Hid (0 < l.length → ∃ g o, a = some ⟨g, o, none⟩) := hid (fun hp => by
    obtain ⟨g, o, c, e⟩ := rg_pos HR.out hp
    injection e with e1
    exact ⟨g, o, e1⟩)
  have HL : Hid (∀ (j : Nat) (q : R), l[j]? = some q → j < l.length) := hid (fun j q hj => (List.getElem?_eq_some_iff.1 hj).1)
  have eg2 : ∀ (args : Array Value) (w : World), (callFunc g args).run Tryz.prog w = .ok (.enter g args) w := eg
  clear hp eg
  generalize hnn : l.length = n at *
  go_enter Tryz.func111, Tryz.ntmps111
  go_wp2_with fail
  go_loopw [8] (fun j wr => ∃ k : Nat, k ≤ n ∧ j = .int .i64 (k : Int) ∧ Hid (∀ (j : Nat) (q : R), j < k → l[j]? = some q → p q = false) ∧ Hid (Kept w wr)) (fun j _ => n - (intOf j).toNat)
  case atStart => exact ⟨0, Nat.zero_le _, rfl, hid (fun j q hj => by omega), hid (kept_refl w)⟩
  case round =>
    obtain ⟨k, hk, rfl, HN, HK⟩ := hrel
    by_cases hlt : k < n
    · have hltz : (k : Int) < (n : Int) := by omega
      obtain ⟨y, hy⟩ := HG.out k hlt
      obtain ⟨g1, o, rfl⟩ := HQ.out (by omega)
      obtain ⟨c0, c1, c2, c3, c4, c5, c6, c7⟩ := rg_R (rg_kept encR_ok HR.out HK.out) hy
      have hC := HP.out wr y (List.mem_of_getElem? hy) HK.out
      have HY := hid hy
      clear hy
      cases hb : p y with
      | false =>
        rw [hb] at hC
        have HB := hid hb
        clear hb
        go_wp2_with fail
        refine hC.mono ?_
        rintro e w1 ⟨rfl, k1⟩
        have HK1 := hid (kept_trans HK.out k1)
        clear k1 hC c0 c1 c2 c3 c4 c5 c6 c7
        go_wp2_with fail
        go_roundw
        case rel =>
          refine ⟨k + 1, by omega, by go_num, hid (fun j q h1 h2 => ?_), HK1⟩
          by_cases e : j = k
          · subst e
            rw [HY.out] at h2
            injection h2 with h2
            rw [← h2]; exact HB.out
          · exact HN.out j q (by omega) h2
        case measure => simp [intOf]; omega
      | true =>
        rw [hb] at hC
        have HB := hid hb
        clear hb
        go_wp2_with fail
        refine hC.mono ?_
        rintro e w1 ⟨rfl, k1⟩
        have HK1 := hid (kept_trans HK.out k1)
        clear k1 hC c0 c1 c2 c3 c4 c5 c6 c7
        go_wp2_with fail
        go_ret
        exact ⟨_, rfl, .inr ⟨k, rfl, by rw [hnn]; exact hlt, ⟨y, HY.out, HB.out⟩, HN.out⟩, HK1.out⟩
    · have hltz : ¬ (k : Int) < (n : Int) := by omega
      go_wp2_with fail
      go_ret
      exact ⟨_, rfl, .inl ⟨rfl, fun j q hj => HN.out j q (by have := HL.out j q hj; omega) hj⟩, HK.out⟩
theorem ldContR {g : Nat} {c : Value} {p : R → Bool} {l : List R} (eg : EntersL g) (hl : l.length ≤ 4611686018427387904) (v : Value) (w : World) (h : Rg encR 8 w v l) (hp : PredR g c p l w) :
    Calls Tryz.prog 82 #[v, .func (.func g) #[] #[c]] w fun e w' => e = .returned (.bool (l.any p)) ∧ Kept w w' := by
  have hI := ldIdxR eg hl v w h hp
  obtain ⟨a, cap, rfl, -, -, -, -⟩ := h
  clear hp eg hl
  go_enter Tryz.func82, Tryz.ntmps82
  go_wp2_with fail
  refine hI.mono ?_
  rintro e w1 ⟨z, rfl, hz, k1⟩
  have HK1 := hid k1
  clear k1 hI
  rcases hz with ⟨rfl, hall⟩ | ⟨i, rfl, hf⟩
  · have HA := hid (anyL_no hall)
    clear hall
    go_wp2_with fail
    go_ret
    exact ⟨ret_bool HA.out.symm, HK1.out⟩
  · have HA := hid (anyL_fst hf)
    have hi : ¬ (i : Int) < 0 := by omega
    have hi2 : (0 : Int) ≤ (i : Int) := by omega
    clear hf
    go_wp2_with fail
    go_ret
    exact ⟨ret_bool HA.out.symm, HK1.out⟩
set_option maxHeartbeats 1600000 in
theorem ldAllR (l : List R) (hm : ∀ x ∈ l, x.key.size ≤ maxLen ∧ x.body.size ≤ maxLen) (v : Value) (w : World) (h : Rg encR 8 w v l) :
    Calls Tryz.prog 44 #[v, .func (.func 45) #[] #[]] w fun e w' => e = .returned (.bool (decide (l.length ≤ 4096) && l.all mayR)) ∧ Kept w w' := by
  have HR := hid h
  obtain ⟨a, cap, rfl, -, -, -, -⟩ := h
  have HK := hid (kept_alloc (kept_refl w) (.cells #[.func (.func 45) #[] #[]] 92))
  have hA := at_new w #[.func (.func 45) #[] #[]] 92
  have HA := hid hA
  have hC := fun (hl : l.length ≤ 4611686018427387904) => ldContR (g := 83) (c := .pointer (some ⟨w.heap.size, 0, none⟩)) (p := fun x => !(mayR x)) (l := l) (fun _ _ => by kernel_rfl) hl (.slice a l.length cap) (w.alloc (.cells #[.func (.func 45) #[] #[]] 92)) (rg_kept encR_ok HR.out HK.out) (fun u q hq ku => by
    have c0 : u.cell? ⟨w.heap.size, 0, none⟩ = some (.func (.func 45) #[] #[]) := at_cell (at_kept HA.out ku) 0
    have HM := hid (fun (z : World) => (fun h => ldRecMay q h.1 h.2) (hm q hq) z)
    have k2 := hid (kept_alloc (kept_refl u) (.cells #[.string q.key, .int .u64 q.s.p, .int .u32 q.s.l, .int .u8 q.s.n, .int .u8 q.kind, .int .u32 q.flags, .int .u64 q.exp, .string q.body] 57))
    have c1 := hid (at_new u #[.string q.key, .int .u64 q.s.p, .int .u32 q.s.l, .int .u8 q.s.n, .int .u8 q.kind, .int .u32 q.flags, .int .u64 q.exp, .string q.body] 57)
    have c2 : (u.alloc (.cells #[.string q.key, .int .u64 q.s.p, .int .u32 q.s.l, .int .u8 q.s.n, .int .u8 q.kind, .int .u32 q.flags, .int .u64 q.exp, .string q.body] 57)).cell? ⟨w.heap.size, 0, none⟩ = some (.func (.func 45) #[] #[]) := at_cell (at_alloc (at_kept HA.out ku) _) 0
    have HW : Hid (w.heap.size < u.heap.size) := hid (at_lt (at_kept HA.out ku))
    generalize w.heap.size = Z at *
    obtain ⟨d0, d1, d2, d3, d4, d5, d6, d7, -⟩ := at_cells8 c1.out
    clear hm ku HA hA HK HR
    go_enter Tryz.func83, Tryz.ntmps83
    go_wp2_with fail
    refine (HM.out _).mono ?_
    rintro e u1 ⟨rfl, k1⟩
    have K1 : Hid (Kept u u1) := by first | exact hid (kept_trans k2.out k1) | exact hid k1
    clear k1
    go_wp2_with fail
    go_ret
    exact ⟨rfl, K1.out⟩)
  have HF : Hid (decide (l.length ≤ 4096) = true → (decide (l.length ≤ 4096) && l.all mayR) = !(l.any fun x => !(mayR x))) := hid (fun e => by rw [e, Bool.true_and]; exact allL mayR l)
  have HG : Hid (¬ l.length ≤ 4096 → (decide (l.length ≤ 4096) && l.all mayR) = false) := hid (fun e => by rw [decide_eq_false e]; rfl)
  generalize (decide (l.length ≤ 4096) && l.all mayR) = out at *
  generalize l.any (fun x => !(mayR x)) = an at *
  have hc0 := at_cell hA 0
  clear hm hA HA HR
  by_cases hn : l.length ≤ 4096
  · have HO := hid (HF.out (decide_eq_true hn))
    have hz : (l.length : Int) ≤ 4096 := by omega
    clear HF HG
    go_enter Tryz.func44, Tryz.ntmps44
    have hmf : ∀ (fn : Fn) (first cap : Array Value) (w : World), (Instr.makeFunc fn first cap).run Tryz.prog w = .ok (.func fn first cap) w := fun _ _ _ _ => rfl
    go_wp2_with fail
    refine (hC (by omega)).mono ?_
    rintro e w1 ⟨rfl, k1⟩
    have K1 := hid (kept_trans HK.out k1)
    clear k1 hC hc0
    go_wp2_with fail
    go_ret
    exact ⟨ret_bool HO.out.symm, K1.out⟩
  · have HO := hid (HG.out hn)
    have hz : ¬ (l.length : Int) ≤ 4096 := by omega
    clear HF HG hC
    go_enter Tryz.func44, Tryz.ntmps44
    go_wp2_with fail
    go_ret
    exact ⟨ret_bool HO.out.symm, HK.out⟩

def PredS (g : Nat) (c : Value) (p : Sn → Bool) (l : List Sn) (w : World) : Prop := ∀ (u : World) (q : Sn), q ∈ l → Kept w u → Calls Tryz.prog g #[.agg #[.string q.key, .int .u64 q.s.p, .int .u32 q.s.l, .int .u8 q.s.n, .int .u8 q.kind], c] u fun e u' => e = .returned (.bool (p q)) ∧ Kept u u'
set_option maxHeartbeats 1600000 in
theorem ldIdxS {g : Nat} {c : Value} {p : Sn → Bool} {l : List Sn} (eg : EntersL g) (hl : l.length ≤ 4611686018427387904) (v : Value) (w : World) (h : Rg encS 5 w v l) (hp : PredS g c p l w) :
    Calls Tryz.prog 112 #[v, .func (.func g) #[] #[c]] w (IdxL p l w) := by
  have HR := hid h
  have HP := hid hp
  obtain ⟨a, cap, rfl, -, -, -, -⟩ := h
  have HG : Hid (∀ k : Nat, k < l.length → ∃ y, l[k]? = some y) := hid (fun k hk => ⟨l[k], List.getElem?_eq_getElem hk⟩)
  have HQ : Hid (0 < l.length → ∃ g o, a = some ⟨g, o, none⟩) := hid (fun hp => by
    obtain ⟨g, o, c, e⟩ := rg_pos HR.out hp
    injection e with e1
    exact ⟨g, o, e1⟩)
  have HL : Hid (∀ (j : Nat) (q : Sn), l[j]? = some q → j < l.length) := hid (fun j q hj => (List.getElem?_eq_some_iff.1 hj).1)
  have eg2 : ∀ (args : Array Value) (w : World), (callFunc g args).run Tryz.prog w = .ok (.enter g args) w := eg
  clear hp eg
  generalize hnn : l.length = n at *
  go_enter Tryz.func112, Tryz.ntmps112
  go_wp2_with fail
  go_loopw [8] (fun j wr => ∃ k : Nat, k ≤ n ∧ j = .int .i64 (k : Int) ∧ Hid (∀ (j : Nat) (q : Sn), j < k → l[j]? = some q → p q = false) ∧ Hid (Kept w wr)) (fun j _ => n - (intOf j).toNat)
  case atStart => exact ⟨0, Nat.zero_le _, rfl, hid (fun j q hj => by omega), hid (kept_refl w)⟩
  case round =>
    obtain ⟨k, hk, rfl, HN, HK⟩ := hrel
    by_cases hlt : k < n
    · have hltz : (k : Int) < (n : Int) := by omega
      obtain ⟨y, hy⟩ := HG.out k hlt
      obtain ⟨g1, o, rfl⟩ := HQ.out (by omega)
      obtain ⟨c0, c1, c2, c3, c4⟩ := rg_S (rg_kept encS_ok HR.out HK.out) hy
      have hC := HP.out wr y (List.mem_of_getElem? hy) HK.out
      have HY := hid hy
      clear hy
      cases hb : p y with
      | false =>
        rw [hb] at hC
        have HB := hid hb
        clear hb
        go_wp2_with fail
        refine hC.mono ?_
        rintro e w1 ⟨rfl, k1⟩
        have HK1 := hid (kept_trans HK.out k1)
        clear k1 hC c0 c1 c2 c3 c4
        go_wp2_with fail
        go_roundw
        case rel =>
          refine ⟨k + 1, by omega, by go_num, hid (fun j q h1 h2 => ?_), HK1⟩
          by_cases e : j = k
          · subst e
            rw [HY.out] at h2
            injection h2 with h2
            rw [← h2]; exact HB.out
          · exact HN.out j q (by omega) h2
        case measure => simp [intOf]; omega
      | true =>
        rw [hb] at hC
        have HB := hid hb
        clear hb
        go_wp2_with fail
        refine hC.mono ?_
        rintro e w1 ⟨rfl, k1⟩
        have HK1 := hid (kept_trans HK.out k1)
        clear k1 hC c0 c1 c2 c3 c4
        go_wp2_with fail
        go_ret
        exact ⟨_, rfl, .inr ⟨k, rfl, by rw [hnn]; exact hlt, ⟨y, HY.out, HB.out⟩, HN.out⟩, HK1.out⟩
    · have hltz : ¬ (k : Int) < (n : Int) := by omega
      go_wp2_with fail
      go_ret
      exact ⟨_, rfl, .inl ⟨rfl, fun j q hj => HN.out j q (by have := HL.out j q hj; omega) hj⟩, HK.out⟩
theorem ldContS {g : Nat} {c : Value} {p : Sn → Bool} {l : List Sn} (eg : EntersL g) (hl : l.length ≤ 4611686018427387904) (v : Value) (w : World) (h : Rg encS 5 w v l) (hp : PredS g c p l w) :
    Calls Tryz.prog 86 #[v, .func (.func g) #[] #[c]] w fun e w' => e = .returned (.bool (l.any p)) ∧ Kept w w' := by
  have hI := ldIdxS eg hl v w h hp
  obtain ⟨a, cap, rfl, -, -, -, -⟩ := h
  clear hp eg hl
  go_enter Tryz.func86, Tryz.ntmps86
  go_wp2_with fail
  refine hI.mono ?_
  rintro e w1 ⟨z, rfl, hz, k1⟩
  have HK1 := hid k1
  clear k1 hI
  rcases hz with ⟨rfl, hall⟩ | ⟨i, rfl, hf⟩
  · have HA := hid (anyL_no hall)
    clear hall
    go_wp2_with fail
    go_ret
    exact ⟨ret_bool HA.out.symm, HK1.out⟩
  · have HA := hid (anyL_fst hf)
    have hi : ¬ (i : Int) < 0 := by omega
    have hi2 : (0 : Int) ≤ (i : Int) := by omega
    clear hf
    go_wp2_with fail
    go_ret
    exact ⟨ret_bool HA.out.symm, HK1.out⟩
set_option maxHeartbeats 1600000 in
theorem ldAllS (l : List Sn) (hm : ∀ x ∈ l, x.key.size ≤ maxLen) (v : Value) (w : World) (h : Rg encS 5 w v l) :
    Calls Tryz.prog 46 #[v, .func (.func 47) #[] #[]] w fun e w' => e = .returned (.bool (decide (l.length ≤ 4096) && l.all mayS)) ∧ Kept w w' := by
  have HR := hid h
  obtain ⟨a, cap, rfl, -, -, -, -⟩ := h
  have HK := hid (kept_alloc (kept_refl w) (.cells #[.func (.func 47) #[] #[]] 93))
  have hA := at_new w #[.func (.func 47) #[] #[]] 93
  have HA := hid hA
  have hC := fun (hl : l.length ≤ 4611686018427387904) => ldContS (g := 87) (c := .pointer (some ⟨w.heap.size, 0, none⟩)) (p := fun x => !(mayS x)) (l := l) (fun _ _ => by kernel_rfl) hl (.slice a l.length cap) (w.alloc (.cells #[.func (.func 47) #[] #[]] 93)) (rg_kept encS_ok HR.out HK.out) (fun u q hq ku => by
    have c0 : u.cell? ⟨w.heap.size, 0, none⟩ = some (.func (.func 47) #[] #[]) := at_cell (at_kept HA.out ku) 0
    have HM := hid (fun (z : World) => (fun h => ldSeenMay_any q h) (hm q hq) z)
    have k2 := hid (kept_alloc (kept_refl u) (.cells #[.string q.key, .int .u64 q.s.p, .int .u32 q.s.l, .int .u8 q.s.n, .int .u8 q.kind] 59))
    have c1 := hid (at_new u #[.string q.key, .int .u64 q.s.p, .int .u32 q.s.l, .int .u8 q.s.n, .int .u8 q.kind] 59)
    have c2 : (u.alloc (.cells #[.string q.key, .int .u64 q.s.p, .int .u32 q.s.l, .int .u8 q.s.n, .int .u8 q.kind] 59)).cell? ⟨w.heap.size, 0, none⟩ = some (.func (.func 47) #[] #[]) := at_cell (at_alloc (at_kept HA.out ku) _) 0
    have HW : Hid (w.heap.size < u.heap.size) := hid (at_lt (at_kept HA.out ku))
    generalize w.heap.size = Z at *
    obtain ⟨d0, d1, d2, d3, d4, -⟩ := at_cells5 c1.out
    clear hm ku HA hA HK HR
    go_enter Tryz.func87, Tryz.ntmps87
    go_wp2_with fail
    refine (HM.out _).mono ?_
    rintro e u1 ⟨rfl, k1⟩
    have K1 : Hid (Kept u u1) := by first | exact hid (kept_trans k2.out k1) | exact hid k1
    clear k1
    go_wp2_with fail
    go_ret
    exact ⟨rfl, K1.out⟩)
  have HF : Hid (decide (l.length ≤ 4096) = true → (decide (l.length ≤ 4096) && l.all mayS) = !(l.any fun x => !(mayS x))) := hid (fun e => by rw [e, Bool.true_and]; exact allL mayS l)
  have HG : Hid (¬ l.length ≤ 4096 → (decide (l.length ≤ 4096) && l.all mayS) = false) := hid (fun e => by rw [decide_eq_false e]; rfl)
  generalize (decide (l.length ≤ 4096) && l.all mayS) = out at *
  generalize l.any (fun x => !(mayS x)) = an at *
  have hc0 := at_cell hA 0
  clear hm hA HA HR
  by_cases hn : l.length ≤ 4096
  · have HO := hid (HF.out (decide_eq_true hn))
    have hz : (l.length : Int) ≤ 4096 := by omega
    clear HF HG
    go_enter Tryz.func46, Tryz.ntmps46
    have hmf : ∀ (fn : Fn) (first cap : Array Value) (w : World), (Instr.makeFunc fn first cap).run Tryz.prog w = .ok (.func fn first cap) w := fun _ _ _ _ => rfl
    go_wp2_with fail
    refine (hC (by omega)).mono ?_
    rintro e w1 ⟨rfl, k1⟩
    have K1 := hid (kept_trans HK.out k1)
    clear k1 hC hc0
    go_wp2_with fail
    go_ret
    exact ⟨ret_bool HO.out.symm, K1.out⟩
  · have HO := hid (HG.out hn)
    have hz : ¬ (l.length : Int) ≤ 4096 := by omega
    clear HF HG hC
    go_enter Tryz.func46, Tryz.ntmps46
    go_wp2_with fail
    go_ret
    exact ⟨ret_bool HO.out.symm, HK.out⟩
end Go.Proofs.YtioeidhblbfgmaaGreat
