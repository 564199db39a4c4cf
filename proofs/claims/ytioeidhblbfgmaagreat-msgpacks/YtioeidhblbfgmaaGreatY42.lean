/- The contracts of the landed reader's lists. The bytes are at most 2^47. A struct that is loaded whole, and stored whole, as one row of cells. No condition. -/
import Derived.Test.YtioeidhblbfgmaaGreatY41
import Derived.Test.YtioeidhblbfgmaaGreatY14

namespace Go.Proofs.YtioeidhblbfgmaaGreat
open Go.ChangeShapes Go.WideShapes Go.ChangeAt Go.RowKit
set_option linter.unusedVariables false
set_option linter.unusedSimpArgs false
set_option maxRecDepth 100000

/- What a list's reading answers: a row of new memory, and goes on; or the panic. -/
def RdL {α : Type} (enc : α → List Value) (c : Nat) (T : TypeId) (s : ByteArray) (X : Nat) (r : List α × (Int × Nat)) (w : World) (e : Ending) (w' : World) : Prop :=
  (r.2.2 = 0 ∧ ∃ v, e = .returned v ∧ Og enc c T w' w.heap.size v r.1 ∧ In X s r.2.1 w' ∧ Turn X w w') ∨ (r.2.2 ≠ 0 ∧ e = .panicked (fault r.2.2) ∧ Turn X w w')
theorem turn_gr {X : Nat} {w u u' : World} {r : Option Nat} (t : Turn X w u) (g : u.grownBy u' r) (hr : ∀ b, r = some b → w.heap.size ≤ b) : Turn X w u' :=
  ⟨g.os.trans t.1, g.output.trans t.2.1, Nat.le_trans t.2.2.1 g.size, fun k hk hn => (g.block k (Nat.lt_of_lt_of_le hk t.2.2.1) (fun e => by have := hr k e.symm; omega)).trans (t.2.2.2 k hk hn)⟩
set_option maxHeartbeats 6400000 in
theorem ldLN_any (s : ByteArray) (hs : s.size ≤ 140737488355328) (p : Int) (X : Nat) (w : World) (h : In X s p w) :
    Calls Tryz.prog 99 #[.pointer (some ⟨X, 0, none⟩), .func (.func 100) #[.pointer (some ⟨X, 0, none⟩)] #[]] w (RdL encN 3 79 s X (listM s (newsM s) (p, 0)) w) := by
  obtain ⟨n, p0, f0, h0⟩ := trio (numM s 0 4096 (p, 0))
  have hn := num_le h0
  obtain ⟨xs, p', f', hL⟩ := trio (listM s (newsM s) (p, 0))
  have HR0 : Hid (runL (newsM s) (n - 0) ([], (p0, f0)) = (xs, (p', f'))) := hid (by unfold listM at hL; rw [h0] at hL; exact hL)
  rw [hL]
  have C0 := ldNum_any s hs 0 4096 p X w h
  rw [h0] at C0
  clear hL h0 h
  go_enter Tryz.func99, Tryz.ntmps99
  go_wp2_with fail
  refine C0.mono ?_
  rintro e w1 (⟨g0, rfl, hA, hT⟩ | ⟨g0, rfl, hT⟩)
  · simp only at g0
    subst g0
    have HA := hid hA
    have HT := hid hT
    clear hA hT C0
    go_wp2_with fail
    go_loopw [5, 8] (fun rv iv wr => ∃ (j : Nat) (l : List Nw) (q : Int) (va : Option Addr) (vc : Nat), j ≤ n ∧ Hid (l.length = j) ∧ rv = .slice va l.length vc ∧ iv = .int .u64 (j : Int) ∧ Hid (runL (newsM s) (n - j) (l, (q, 0)) = (xs, (p', f'))) ∧ Hid (In X s q wr) ∧ Hid (Og encN 3 79 wr w.heap.size (.slice va l.length vc) l) ∧ Hid (Turn X w wr)) (fun _ iv _ => n - (intOf iv).toNat)
    case atStart => exact ⟨0, [], p0, none, 0, Nat.zero_le _, hid rfl, rfl, rfl, HR0, HA, hid (og_nil _ _ _ _ _), HT⟩
    case round =>
      obtain ⟨j, l, q, va, vc, hj, HLl, rfl, rfl, HR, HI, HO, HT⟩ := hrel
      clear HR0
      by_cases hlt : j < n
      · have hltz : (j : Int) < (n : Int) := by omega
        obtain ⟨x, q2, f2, h2⟩ := trio (newsM s (q, 0))
        have C2 := ldNews_any s hs q X wr HI.out
        rw [h2] at C2
        have HR2 : Hid (runL (newsM s) (n - (j + 1)) (l ++ [x], (q2, f2)) = (xs, (p', f'))) := hid (by have h9 := HR.out; rw [show n - j = (n - (j + 1)) + 1 by omega, runL_next rfl] at h9; rw [h2] at h9; exact h9)
        clear h2 HR
        go_wp2_with fail
        refine C2.mono ?_
        rintro e w2 (⟨g2, rfl, hA, hT⟩ | ⟨g2, rfl, hT⟩)
        · simp only at g2
          subst g2
          have hal := rg_alone encN_ok (y := x) (at_new w2 #[.int .u8 x.node, .int .u8 x.st, .int .u32 x.inc] 79)
          have kb := kept_alloc (kept_refl w2) (.cells #[.int .u8 x.node, .int .u8 x.st, .int .u32 x.inc] 79)
          have HAl := hid hal
          have HIb := hid (in_kept hA kb)
          have HOb := hid (og_stays (og_tn HO.out (tn_turn hT) (fun b hb => own_ne HO.out HI.out (by decide) b hb)) kb)
          have HTb := hid ((HT.out.trans hT).trans (turn_kept (c := X) kb))
          clear hal kb hA hT C2 HI HO HT
          go_wp2_with (at_builtin; go_must (refine wpList_gapp rfl (.tmp 10) (.tmp 13) rfl encN_ok tyN (by decide) w.heap.size _ _ _ [x] rfl HOb.out rfl HAl.out (by rw [HLl.out]; simp; omega) HTb.out.2.2.1 ?_; intro v9 w9 hown9 hgrow9 hnil9; obtain ⟨va9, vc9, e9, -, -⟩ := og_is encN_ok hown9; obtain ⟨ln, hln⟩ : ∃ ln, (l ++ [x]).length = ln := ⟨_, rfl⟩; rw [hln] at e9; have HLN := hid hln; clear hln; subst e9; have HI9 := hid (at_tn HIb.out (tn_grown hgrow9) (fun e => own_ne HOb.out HIb.out (by decide) X e rfl)); have HT9 := hid (turn_gr HTb.out hgrow9 (fun b hb => og_lt HOb.out hb)); have HO9 := hid hown9; clear hown9 hgrow9 hnil9))
          go_roundw
          case rel => exact ⟨j + 1, l ++ [x], q2, va9, vc9, by omega, hid (by rw [List.length_append, HLl.out]; rfl), by rw [HLN.out], by go_num, HR2, HI9, by rw [HLN.out]; exact HO9, HT9⟩
          case measure => simp [intOf]; omega
        · have HTe := hid (HT.out.trans hT)
          have HRx := HR2.out
          rw [runL_stop (.inr g2)] at HRx
          have HF : Hid (f' = f2) := hid (by injection HRx with e1 e2; injection e2 with e2 e3; exact e3.symm)
          have HG := hid g2
          clear HR2 HRx HI HO HT hT C2 g2
          go_wp2_with fail
          exact ⟨rfl, .inr ⟨by rw [HF.out]; exact HG.out, by rw [HF.out], HTe.out⟩⟩
      · have hltz : ¬ (j : Int) < (n : Int) := by omega
        have HRx := HR.out
        rw [runL_stop (.inl (by omega))] at HRx
        obtain ⟨rfl, rfl, rfl⟩ : l = xs ∧ q = p' ∧ 0 = f' := by
          injection HRx with e1 e2
          injection e2 with e2 e3
          exact ⟨e1, e2, e3⟩
        clear HR HRx
        go_wp2_with fail
        go_ret
        exact .inl ⟨rfl, _, rfl, HO.out, HI.out, HT.out⟩
  · have HTe := hid hT
    have HRx := HR0.out
    rw [runL_stop (.inr g0)] at HRx
    have HF : Hid (f' = f0) := hid (by injection HRx with e1 e2; injection e2 with e2 e3; exact e3.symm)
    have HG := hid g0
    clear HR0 HRx hT C0 g0
    go_wp2_with fail
    exact ⟨rfl, .inr ⟨by rw [HF.out]; exact HG.out, by rw [HF.out], HTe.out⟩⟩
set_option maxHeartbeats 6400000 in
theorem ldLK_any (s : ByteArray) (hs : s.size ≤ 140737488355328) (p : Int) (X : Nat) (w : World) (h : In X s p w) :
    Calls Tryz.prog 101 #[.pointer (some ⟨X, 0, none⟩), .func (.func 102) #[.pointer (some ⟨X, 0, none⟩)] #[]] w (RdL encK 1 9 s X (listM s (keyM s) (p, 0)) w) := by
  obtain ⟨n, p0, f0, h0⟩ := trio (numM s 0 4096 (p, 0))
  have hn := num_le h0
  obtain ⟨xs, p', f', hL⟩ := trio (listM s (keyM s) (p, 0))
  have HR0 : Hid (runL (keyM s) (n - 0) ([], (p0, f0)) = (xs, (p', f'))) := hid (by unfold listM at hL; rw [h0] at hL; exact hL)
  rw [hL]
  have C0 := ldNum_any s hs 0 4096 p X w h
  rw [h0] at C0
  clear hL h0 h
  go_enter Tryz.func101, Tryz.ntmps101
  go_wp2_with fail
  refine C0.mono ?_
  rintro e w1 (⟨g0, rfl, hA, hT⟩ | ⟨g0, rfl, hT⟩)
  · simp only at g0
    subst g0
    have HA := hid hA
    have HT := hid hT
    clear hA hT C0
    go_wp2_with fail
    go_loopw [5, 8] (fun rv iv wr => ∃ (j : Nat) (l : List ByteArray) (q : Int) (va : Option Addr) (vc : Nat), j ≤ n ∧ Hid (l.length = j) ∧ rv = .slice va l.length vc ∧ iv = .int .u64 (j : Int) ∧ Hid (runL (keyM s) (n - j) (l, (q, 0)) = (xs, (p', f'))) ∧ Hid (In X s q wr) ∧ Hid (Og encK 1 9 wr w.heap.size (.slice va l.length vc) l) ∧ Hid (Turn X w wr)) (fun _ iv _ => n - (intOf iv).toNat)
    case atStart => exact ⟨0, [], p0, none, 0, Nat.zero_le _, hid rfl, rfl, rfl, HR0, HA, hid (og_nil _ _ _ _ _), HT⟩
    case round =>
      obtain ⟨j, l, q, va, vc, hj, HLl, rfl, rfl, HR, HI, HO, HT⟩ := hrel
      clear HR0
      by_cases hlt : j < n
      · have hltz : (j : Int) < (n : Int) := by omega
        obtain ⟨x, q2, f2, h2⟩ := trio (keyM s (q, 0))
        have C2 := ldKey_any s hs q X wr HI.out
        rw [h2] at C2
        have HR2 : Hid (runL (keyM s) (n - (j + 1)) (l ++ [x], (q2, f2)) = (xs, (p', f'))) := hid (by have h9 := HR.out; rw [show n - j = (n - (j + 1)) + 1 by omega, runL_next rfl] at h9; rw [h2] at h9; exact h9)
        clear h2 HR
        go_wp2_with fail
        refine C2.mono ?_
        rintro e w2 (⟨g2, rfl, hA, hT⟩ | ⟨g2, rfl, hT⟩)
        · simp only at g2
          subst g2
          have hal := rg_alone encK_ok (y := x) (at_new w2 #[.string x] 9)
          have kb := kept_alloc (kept_refl w2) (.cells #[.string x] 9)
          have HAl := hid hal
          have HIb := hid (in_kept hA kb)
          have HOb := hid (og_stays (og_tn HO.out (tn_turn hT) (fun b hb => own_ne HO.out HI.out (by decide) b hb)) kb)
          have HTb := hid ((HT.out.trans hT).trans (turn_kept (c := X) kb))
          clear hal kb hA hT C2 HI HO HT
          go_wp2_with (at_builtin; go_must (refine wpList_gapp rfl (.tmp 10) (.tmp 13) rfl encK_ok tyK (by decide) w.heap.size _ _ _ [x] rfl HOb.out rfl HAl.out (by rw [HLl.out]; simp; omega) HTb.out.2.2.1 ?_; intro v9 w9 hown9 hgrow9 hnil9; obtain ⟨va9, vc9, e9, -, -⟩ := og_is encK_ok hown9; obtain ⟨ln, hln⟩ : ∃ ln, (l ++ [x]).length = ln := ⟨_, rfl⟩; rw [hln] at e9; have HLN := hid hln; clear hln; subst e9; have HI9 := hid (at_tn HIb.out (tn_grown hgrow9) (fun e => own_ne HOb.out HIb.out (by decide) X e rfl)); have HT9 := hid (turn_gr HTb.out hgrow9 (fun b hb => og_lt HOb.out hb)); have HO9 := hid hown9; clear hown9 hgrow9 hnil9))
          go_roundw
          case rel => exact ⟨j + 1, l ++ [x], q2, va9, vc9, by omega, hid (by rw [List.length_append, HLl.out]; rfl), by rw [HLN.out], by go_num, HR2, HI9, by rw [HLN.out]; exact HO9, HT9⟩
          case measure => simp [intOf]; omega
        · have HTe := hid (HT.out.trans hT)
          have HRx := HR2.out
          rw [runL_stop (.inr g2)] at HRx
          have HF : Hid (f' = f2) := hid (by injection HRx with e1 e2; injection e2 with e2 e3; exact e3.symm)
          have HG := hid g2
          clear HR2 HRx HI HO HT hT C2 g2
          go_wp2_with fail
          exact ⟨rfl, .inr ⟨by rw [HF.out]; exact HG.out, by rw [HF.out], HTe.out⟩⟩
      · have hltz : ¬ (j : Int) < (n : Int) := by omega
        have HRx := HR.out
        rw [runL_stop (.inl (by omega))] at HRx
        obtain ⟨rfl, rfl, rfl⟩ : l = xs ∧ q = p' ∧ 0 = f' := by
          injection HRx with e1 e2
          injection e2 with e2 e3
          exact ⟨e1, e2, e3⟩
        clear HR HRx
        go_wp2_with fail
        go_ret
        exact .inl ⟨rfl, _, rfl, HO.out, HI.out, HT.out⟩
  · have HTe := hid hT
    have HRx := HR0.out
    rw [runL_stop (.inr g0)] at HRx
    have HF : Hid (f' = f0) := hid (by injection HRx with e1 e2; injection e2 with e2 e3; exact e3.symm)
    have HG := hid g0
    clear HR0 HRx hT C0 g0
    go_wp2_with fail
    exact ⟨rfl, .inr ⟨by rw [HF.out]; exact HG.out, by rw [HF.out], HTe.out⟩⟩
set_option maxHeartbeats 6400000 in
theorem ldLR_any (s : ByteArray) (hs : s.size ≤ 140737488355328) (p : Int) (X : Nat) (w : World) (h : In X s p w) :
    Calls Tryz.prog 103 #[.pointer (some ⟨X, 0, none⟩), .func (.func 104) #[.pointer (some ⟨X, 0, none⟩)] #[]] w (RdL encR 8 57 s X (listM s (recM s) (p, 0)) w) := by
  obtain ⟨n, p0, f0, h0⟩ := trio (numM s 0 4096 (p, 0))
  have hn := num_le h0
  obtain ⟨xs, p', f', hL⟩ := trio (listM s (recM s) (p, 0))
  have HR0 : Hid (runL (recM s) (n - 0) ([], (p0, f0)) = (xs, (p', f'))) := hid (by unfold listM at hL; rw [h0] at hL; exact hL)
  rw [hL]
  have C0 := ldNum_any s hs 0 4096 p X w h
  rw [h0] at C0
  clear hL h0 h
  go_enter Tryz.func103, Tryz.ntmps103
  go_wp2_with fail
  refine C0.mono ?_
  rintro e w1 (⟨g0, rfl, hA, hT⟩ | ⟨g0, rfl, hT⟩)
  · simp only at g0
    subst g0
    have HA := hid hA
    have HT := hid hT
    clear hA hT C0
    go_wp2_with fail
    go_loopw [5, 8] (fun rv iv wr => ∃ (j : Nat) (l : List R) (q : Int) (va : Option Addr) (vc : Nat), j ≤ n ∧ Hid (l.length = j) ∧ rv = .slice va l.length vc ∧ iv = .int .u64 (j : Int) ∧ Hid (runL (recM s) (n - j) (l, (q, 0)) = (xs, (p', f'))) ∧ Hid (In X s q wr) ∧ Hid (Og encR 8 57 wr w.heap.size (.slice va l.length vc) l) ∧ Hid (Turn X w wr)) (fun _ iv _ => n - (intOf iv).toNat)
    case atStart => exact ⟨0, [], p0, none, 0, Nat.zero_le _, hid rfl, rfl, rfl, HR0, HA, hid (og_nil _ _ _ _ _), HT⟩
    case round =>
      obtain ⟨j, l, q, va, vc, hj, HLl, rfl, rfl, HR, HI, HO, HT⟩ := hrel
      clear HR0
      by_cases hlt : j < n
      · have hltz : (j : Int) < (n : Int) := by omega
        obtain ⟨x, q2, f2, h2⟩ := trio (recM s (q, 0))
        have C2 := ldRec_any s hs q X wr HI.out
        rw [h2] at C2
        have HR2 : Hid (runL (recM s) (n - (j + 1)) (l ++ [x], (q2, f2)) = (xs, (p', f'))) := hid (by have h9 := HR.out; rw [show n - j = (n - (j + 1)) + 1 by omega, runL_next rfl] at h9; rw [h2] at h9; exact h9)
        clear h2 HR
        go_wp2_with fail
        refine C2.mono ?_
        rintro e w2 (⟨g2, rfl, hA, hT⟩ | ⟨g2, rfl, hT⟩)
        · simp only at g2
          subst g2
          have hal := rg_alone encR_ok (y := x) (at_new w2 #[.string x.key, .int .u64 x.s.p, .int .u32 x.s.l, .int .u8 x.s.n, .int .u8 x.kind, .int .u32 x.flags, .int .u64 x.exp, .string x.body] 57)
          have kb := kept_alloc (kept_refl w2) (.cells #[.string x.key, .int .u64 x.s.p, .int .u32 x.s.l, .int .u8 x.s.n, .int .u8 x.kind, .int .u32 x.flags, .int .u64 x.exp, .string x.body] 57)
          have HAl := hid hal
          have HIb := hid (in_kept hA kb)
          have HOb := hid (og_stays (og_tn HO.out (tn_turn hT) (fun b hb => own_ne HO.out HI.out (by decide) b hb)) kb)
          have HTb := hid ((HT.out.trans hT).trans (turn_kept (c := X) kb))
          clear hal kb hA hT C2 HI HO HT
          go_wp2_with (at_builtin; go_must (refine wpList_gapp rfl (.tmp 10) (.tmp 13) rfl encR_ok tyR (by decide) w.heap.size _ _ _ [x] rfl HOb.out rfl HAl.out (by rw [HLl.out]; simp; omega) HTb.out.2.2.1 ?_; intro v9 w9 hown9 hgrow9 hnil9; obtain ⟨va9, vc9, e9, -, -⟩ := og_is encR_ok hown9; obtain ⟨ln, hln⟩ : ∃ ln, (l ++ [x]).length = ln := ⟨_, rfl⟩; rw [hln] at e9; have HLN := hid hln; clear hln; subst e9; have HI9 := hid (at_tn HIb.out (tn_grown hgrow9) (fun e => own_ne HOb.out HIb.out (by decide) X e rfl)); have HT9 := hid (turn_gr HTb.out hgrow9 (fun b hb => og_lt HOb.out hb)); have HO9 := hid hown9; clear hown9 hgrow9 hnil9))
          go_roundw
          case rel => exact ⟨j + 1, l ++ [x], q2, va9, vc9, by omega, hid (by rw [List.length_append, HLl.out]; rfl), by rw [HLN.out], by go_num, HR2, HI9, by rw [HLN.out]; exact HO9, HT9⟩
          case measure => simp [intOf]; omega
        · have HTe := hid (HT.out.trans hT)
          have HRx := HR2.out
          rw [runL_stop (.inr g2)] at HRx
          have HF : Hid (f' = f2) := hid (by injection HRx with e1 e2; injection e2 with e2 e3; exact e3.symm)
          have HG := hid g2
          clear HR2 HRx HI HO HT hT C2 g2
          go_wp2_with fail
          exact ⟨rfl, .inr ⟨by rw [HF.out]; exact HG.out, by rw [HF.out], HTe.out⟩⟩
      · have hltz : ¬ (j : Int) < (n : Int) := by omega
        have HRx := HR.out
        rw [runL_stop (.inl (by omega))] at HRx
        obtain ⟨rfl, rfl, rfl⟩ : l = xs ∧ q = p' ∧ 0 = f' := by
          injection HRx with e1 e2
          injection e2 with e2 e3
          exact ⟨e1, e2, e3⟩
        clear HR HRx
        go_wp2_with fail
        go_ret
        exact .inl ⟨rfl, _, rfl, HO.out, HI.out, HT.out⟩
  · have HTe := hid hT
    have HRx := HR0.out
    rw [runL_stop (.inr g0)] at HRx
    have HF : Hid (f' = f0) := hid (by injection HRx with e1 e2; injection e2 with e2 e3; exact e3.symm)
    have HG := hid g0
    clear HR0 HRx hT C0 g0
    go_wp2_with fail
    exact ⟨rfl, .inr ⟨by rw [HF.out]; exact HG.out, by rw [HF.out], HTe.out⟩⟩
set_option maxHeartbeats 6400000 in
theorem ldLS_any (s : ByteArray) (hs : s.size ≤ 140737488355328) (p : Int) (X : Nat) (w : World) (h : In X s p w) :
    Calls Tryz.prog 105 #[.pointer (some ⟨X, 0, none⟩), .func (.func 106) #[.pointer (some ⟨X, 0, none⟩)] #[]] w (RdL encS 5 59 s X (listM s (seenM s) (p, 0)) w) := by
  obtain ⟨n, p0, f0, h0⟩ := trio (numM s 0 4096 (p, 0))
  have hn := num_le h0
  obtain ⟨xs, p', f', hL⟩ := trio (listM s (seenM s) (p, 0))
  have HR0 : Hid (runL (seenM s) (n - 0) ([], (p0, f0)) = (xs, (p', f'))) := hid (by unfold listM at hL; rw [h0] at hL; exact hL)
  rw [hL]
  have C0 := ldNum_any s hs 0 4096 p X w h
  rw [h0] at C0
  clear hL h0 h
  go_enter Tryz.func105, Tryz.ntmps105
  go_wp2_with fail
  refine C0.mono ?_
  rintro e w1 (⟨g0, rfl, hA, hT⟩ | ⟨g0, rfl, hT⟩)
  · simp only at g0
    subst g0
    have HA := hid hA
    have HT := hid hT
    clear hA hT C0
    go_wp2_with fail
    go_loopw [5, 8] (fun rv iv wr => ∃ (j : Nat) (l : List Sn) (q : Int) (va : Option Addr) (vc : Nat), j ≤ n ∧ Hid (l.length = j) ∧ rv = .slice va l.length vc ∧ iv = .int .u64 (j : Int) ∧ Hid (runL (seenM s) (n - j) (l, (q, 0)) = (xs, (p', f'))) ∧ Hid (In X s q wr) ∧ Hid (Og encS 5 59 wr w.heap.size (.slice va l.length vc) l) ∧ Hid (Turn X w wr)) (fun _ iv _ => n - (intOf iv).toNat)
    case atStart => exact ⟨0, [], p0, none, 0, Nat.zero_le _, hid rfl, rfl, rfl, HR0, HA, hid (og_nil _ _ _ _ _), HT⟩
    case round =>
      obtain ⟨j, l, q, va, vc, hj, HLl, rfl, rfl, HR, HI, HO, HT⟩ := hrel
      clear HR0
      by_cases hlt : j < n
      · have hltz : (j : Int) < (n : Int) := by omega
        obtain ⟨x, q2, f2, h2⟩ := trio (seenM s (q, 0))
        have C2 := ldSeen_any s hs q X wr HI.out
        rw [h2] at C2
        have HR2 : Hid (runL (seenM s) (n - (j + 1)) (l ++ [x], (q2, f2)) = (xs, (p', f'))) := hid (by have h9 := HR.out; rw [show n - j = (n - (j + 1)) + 1 by omega, runL_next rfl] at h9; rw [h2] at h9; exact h9)
        clear h2 HR
        go_wp2_with fail
        refine C2.mono ?_
        rintro e w2 (⟨g2, rfl, hA, hT⟩ | ⟨g2, rfl, hT⟩)
        · simp only at g2
          subst g2
          have hal := rg_alone encS_ok (y := x) (at_new w2 #[.string x.key, .int .u64 x.s.p, .int .u32 x.s.l, .int .u8 x.s.n, .int .u8 x.kind] 59)
          have kb := kept_alloc (kept_refl w2) (.cells #[.string x.key, .int .u64 x.s.p, .int .u32 x.s.l, .int .u8 x.s.n, .int .u8 x.kind] 59)
          have HAl := hid hal
          have HIb := hid (in_kept hA kb)
          have HOb := hid (og_stays (og_tn HO.out (tn_turn hT) (fun b hb => own_ne HO.out HI.out (by decide) b hb)) kb)
          have HTb := hid ((HT.out.trans hT).trans (turn_kept (c := X) kb))
          clear hal kb hA hT C2 HI HO HT
          go_wp2_with (at_builtin; go_must (refine wpList_gapp rfl (.tmp 10) (.tmp 13) rfl encS_ok tyS (by decide) w.heap.size _ _ _ [x] rfl HOb.out rfl HAl.out (by rw [HLl.out]; simp; omega) HTb.out.2.2.1 ?_; intro v9 w9 hown9 hgrow9 hnil9; obtain ⟨va9, vc9, e9, -, -⟩ := og_is encS_ok hown9; obtain ⟨ln, hln⟩ : ∃ ln, (l ++ [x]).length = ln := ⟨_, rfl⟩; rw [hln] at e9; have HLN := hid hln; clear hln; subst e9; have HI9 := hid (at_tn HIb.out (tn_grown hgrow9) (fun e => own_ne HOb.out HIb.out (by decide) X e rfl)); have HT9 := hid (turn_gr HTb.out hgrow9 (fun b hb => og_lt HOb.out hb)); have HO9 := hid hown9; clear hown9 hgrow9 hnil9))
          go_roundw
          case rel => exact ⟨j + 1, l ++ [x], q2, va9, vc9, by omega, hid (by rw [List.length_append, HLl.out]; rfl), by rw [HLN.out], by go_num, HR2, HI9, by rw [HLN.out]; exact HO9, HT9⟩
          case measure => simp [intOf]; omega
        · have HTe := hid (HT.out.trans hT)
          have HRx := HR2.out
          rw [runL_stop (.inr g2)] at HRx
          have HF : Hid (f' = f2) := hid (by injection HRx with e1 e2; injection e2 with e2 e3; exact e3.symm)
          have HG := hid g2
          clear HR2 HRx HI HO HT hT C2 g2
          go_wp2_with fail
          exact ⟨rfl, .inr ⟨by rw [HF.out]; exact HG.out, by rw [HF.out], HTe.out⟩⟩
      · have hltz : ¬ (j : Int) < (n : Int) := by omega
        have HRx := HR.out
        rw [runL_stop (.inl (by omega))] at HRx
        obtain ⟨rfl, rfl, rfl⟩ : l = xs ∧ q = p' ∧ 0 = f' := by
          injection HRx with e1 e2
          injection e2 with e2 e3
          exact ⟨e1, e2, e3⟩
        clear HR HRx
        go_wp2_with fail
        go_ret
        exact .inl ⟨rfl, _, rfl, HO.out, HI.out, HT.out⟩
  · have HTe := hid hT
    have HRx := HR0.out
    rw [runL_stop (.inr g0)] at HRx
    have HF : Hid (f' = f0) := hid (by injection HRx with e1 e2; injection e2 with e2 e3; exact e3.symm)
    have HG := hid g0
    clear HR0 HRx hT C0 g0
    go_wp2_with fail
    exact ⟨rfl, .inr ⟨by rw [HF.out]; exact HG.out, by rw [HF.out], HTe.out⟩⟩
set_option maxHeartbeats 6400000 in
theorem ldLG_any (s : ByteArray) (hs : s.size ≤ 140737488355328) (p : Int) (X : Nat) (w : World) (h : In X s p w) :
    Calls Tryz.prog 107 #[.pointer (some ⟨X, 0, none⟩), .func (.func 108) #[.pointer (some ⟨X, 0, none⟩)] #[]] w (RdL encG 1 53 s X (listM s (digM s) (p, 0)) w) := by
  obtain ⟨n, p0, f0, h0⟩ := trio (numM s 0 4096 (p, 0))
  have hn := num_le h0
  obtain ⟨xs, p', f', hL⟩ := trio (listM s (digM s) (p, 0))
  have HR0 : Hid (runL (digM s) (n - 0) ([], (p0, f0)) = (xs, (p', f'))) := hid (by unfold listM at hL; rw [h0] at hL; exact hL)
  rw [hL]
  have C0 := ldNum_any s hs 0 4096 p X w h
  rw [h0] at C0
  clear hL h0 h
  go_enter Tryz.func107, Tryz.ntmps107
  go_wp2_with fail
  refine C0.mono ?_
  rintro e w1 (⟨g0, rfl, hA, hT⟩ | ⟨g0, rfl, hT⟩)
  · simp only at g0
    subst g0
    have HA := hid hA
    have HT := hid hT
    clear hA hT C0
    go_wp2_with fail
    go_loopw [5, 8] (fun rv iv wr => ∃ (j : Nat) (l : List Int) (q : Int) (va : Option Addr) (vc : Nat), j ≤ n ∧ Hid (l.length = j) ∧ rv = .slice va l.length vc ∧ iv = .int .u64 (j : Int) ∧ Hid (runL (digM s) (n - j) (l, (q, 0)) = (xs, (p', f'))) ∧ Hid (In X s q wr) ∧ Hid (Og encG 1 53 wr w.heap.size (.slice va l.length vc) l) ∧ Hid (Turn X w wr)) (fun _ iv _ => n - (intOf iv).toNat)
    case atStart => exact ⟨0, [], p0, none, 0, Nat.zero_le _, hid rfl, rfl, rfl, HR0, HA, hid (og_nil _ _ _ _ _), HT⟩
    case round =>
      obtain ⟨j, l, q, va, vc, hj, HLl, rfl, rfl, HR, HI, HO, HT⟩ := hrel
      clear HR0
      by_cases hlt : j < n
      · have hltz : (j : Int) < (n : Int) := by omega
        obtain ⟨x, q2, f2, h2⟩ := trio (digM s (q, 0))
        have C2 := ldDig_any s hs q X wr HI.out
        rw [h2] at C2
        have HR2 : Hid (runL (digM s) (n - (j + 1)) (l ++ [x], (q2, f2)) = (xs, (p', f'))) := hid (by have h9 := HR.out; rw [show n - j = (n - (j + 1)) + 1 by omega, runL_next rfl] at h9; rw [h2] at h9; exact h9)
        clear h2 HR
        go_wp2_with fail
        refine C2.mono ?_
        rintro e w2 (⟨g2, rfl, hA, hT⟩ | ⟨g2, rfl, hT⟩)
        · simp only at g2
          subst g2
          have hal := rg_alone encG_ok (y := x) (at_new w2 #[.int .u64 x] 53)
          have kb := kept_alloc (kept_refl w2) (.cells #[.int .u64 x] 53)
          have HAl := hid hal
          have HIb := hid (in_kept hA kb)
          have HOb := hid (og_stays (og_tn HO.out (tn_turn hT) (fun b hb => own_ne HO.out HI.out (by decide) b hb)) kb)
          have HTb := hid ((HT.out.trans hT).trans (turn_kept (c := X) kb))
          clear hal kb hA hT C2 HI HO HT
          go_wp2_with (at_builtin; go_must (refine wpList_gapp rfl (.tmp 10) (.tmp 13) rfl encG_ok tyG (by decide) w.heap.size _ _ _ [x] rfl HOb.out rfl HAl.out (by rw [HLl.out]; simp; omega) HTb.out.2.2.1 ?_; intro v9 w9 hown9 hgrow9 hnil9; obtain ⟨va9, vc9, e9, -, -⟩ := og_is encG_ok hown9; obtain ⟨ln, hln⟩ : ∃ ln, (l ++ [x]).length = ln := ⟨_, rfl⟩; rw [hln] at e9; have HLN := hid hln; clear hln; subst e9; have HI9 := hid (at_tn HIb.out (tn_grown hgrow9) (fun e => own_ne HOb.out HIb.out (by decide) X e rfl)); have HT9 := hid (turn_gr HTb.out hgrow9 (fun b hb => og_lt HOb.out hb)); have HO9 := hid hown9; clear hown9 hgrow9 hnil9))
          go_roundw
          case rel => exact ⟨j + 1, l ++ [x], q2, va9, vc9, by omega, hid (by rw [List.length_append, HLl.out]; rfl), by rw [HLN.out], by go_num, HR2, HI9, by rw [HLN.out]; exact HO9, HT9⟩
          case measure => simp [intOf]; omega
        · have HTe := hid (HT.out.trans hT)
          have HRx := HR2.out
          rw [runL_stop (.inr g2)] at HRx
          have HF : Hid (f' = f2) := hid (by injection HRx with e1 e2; injection e2 with e2 e3; exact e3.symm)
          have HG := hid g2
          clear HR2 HRx HI HO HT hT C2 g2
          go_wp2_with fail
          exact ⟨rfl, .inr ⟨by rw [HF.out]; exact HG.out, by rw [HF.out], HTe.out⟩⟩
      · have hltz : ¬ (j : Int) < (n : Int) := by omega
        have HRx := HR.out
        rw [runL_stop (.inl (by omega))] at HRx
        obtain ⟨rfl, rfl, rfl⟩ : l = xs ∧ q = p' ∧ 0 = f' := by
          injection HRx with e1 e2
          injection e2 with e2 e3
          exact ⟨e1, e2, e3⟩
        clear HR HRx
        go_wp2_with fail
        go_ret
        exact .inl ⟨rfl, _, rfl, HO.out, HI.out, HT.out⟩
  · have HTe := hid hT
    have HRx := HR0.out
    rw [runL_stop (.inr g0)] at HRx
    have HF : Hid (f' = f0) := hid (by injection HRx with e1 e2; injection e2 with e2 e3; exact e3.symm)
    have HG := hid g0
    clear HR0 HRx hT C0 g0
    go_wp2_with fail
    exact ⟨rfl, .inr ⟨by rw [HF.out]; exact HG.out, by rw [HF.out], HTe.out⟩⟩
end Go.Proofs.YtioeidhblbfgmaaGreat


namespace Go.Proofs.YtioeidhblbfgmaaGreat
open Go.ChangeShapes Go.WideShapes Go.ChangeAt Go.RowKit
set_option linter.unusedVariables false
set_option linter.unusedSimpArgs false
set_option maxRecDepth 100000

section
variable {P : Program} {T n : Nat}
/- A type whose values are n cells. -/
def StructOf (P : Program) (T n : Nat) : Prop := (P.info? T).map (·.size) = some n ∧ ∃ d, P.underlying T = some d ∧ (match d with | .struct _ | .array _ _ => true | _ => false) = true
theorem loadW (hT : StructOf P T n) {w : World} {X U : Nat} {cs : Array Value} (h : At w X cs U) (hn : cs.size = n) : (loadVar T ⟨X, 0, none⟩).run P w = .ok (.agg cs) w := by
  obtain ⟨hi, d, hu, hd⟩ := hT
  exact run_loadVar_row _ _ U T _ (0, 0) _ h hu (by cases d <;> first | rfl | exact hd) (by rw [hn]; exact hi)
theorem storeW (hT : StructOf P T n) {w : World} {X U : Nat} {cs ds : Array Value} (h : At w X ds U) (hn : cs.size = n) (hm : ds.size = n) (h1 : cs.all (·.oneCell') = true) : (storeVar T ⟨X, 0, none⟩ (.agg cs)).run P w = .ok () (w.setRow X cs) :=
  run_storeVar_row _ _ U T _ _ h (by rw [hn]; exact hT.1) (by rw [hn, hm]) h1
theorem wpList_loadW {ops : Array Oper} {rest : List Oper} {op : Oper} {act : Act} {w : World} {Q : Exit → Act → World → Prop} (hgd : op.guard = none) (x : Operand) (ho : op.op = .load T x) (X : Nat) (hx : act.eval x = .pointer (some ⟨X, 0, none⟩)) (cs : Array Value)
    (hld : (loadVar T ⟨X, 0, none⟩).run P w = .ok (.agg cs) w) (h : wpList P ops Q rest (act.put op.dst (.agg cs)) w) : wpList P ops Q (op :: rest) act w :=
  wpList_plain hgd fun _ hK => by
    unfold Oper.wp execOp
    simp only [ho, hx, Instr.loadAt, Instr.sureAddr, Sem.run_bind, Sem.run_pure, Result.andThen_ok, hld]
    exact hK _ _ h
theorem wpList_storeW {ops : Array Oper} {rest : List Oper} {op : Oper} {act : Act} {w : World} {Q : Exit → Act → World → Prop} (hgd : op.guard = none) (x y : Operand) (ho : op.op = .store T x y) (X : Nat) (hx : act.eval x = .pointer (some ⟨X, 0, none⟩)) (cs : Array Value) (hy : act.eval y = .agg cs) (w2 : World)
    (hst : (storeVar T ⟨X, 0, none⟩ (.agg cs)).run P w = .ok () w2) (h : wpList P ops Q rest (act.put op.dst undef) w2) : wpList P ops Q (op :: rest) act w :=
  wpList_plain hgd fun _ hK => by
    unfold Oper.wp execOp
    simp only [ho, hx, hy, Instr.storeAt, Instr.sureAddr, Sem.run_bind, Sem.run_pure, Result.andThen_ok, hst]
    exact hK _ _ h
theorem resW {fn : Func} {p : Tmp} (h : fn.results = #[.cell p T]) (tmps : Array Value) {w : World} {X : Nat} {v : Value} (hp : tmps.getD p undef = .pointer (some ⟨X, 0, none⟩)) (hld : (loadVar T ⟨X, 0, none⟩).run P w = .ok v w) : (results fn tmps).run P w = .ok v w := by
  have hp' : tmps[p]?.getD undef = .pointer (some ⟨X, 0, none⟩) := by simpa using hp
  simp [results, h, asAddr, Sem.run_bind, Sem.run_pure, Result.andThen, hp', hld]
end
theorem tn_row (u : World) (X : Nat) (cs : Array Value) : Tn (fun b => b = X) u (u.setRow X cs) := ⟨rfl, rfl, by rw [setRow_size]; exact Nat.le_refl _, fun b _ hn => setRow_other hn⟩
theorem at_outW {w : World} {X Y T : Nat} {cs ds : Array Value} (h : At w X cs T) (hn : X ≠ Y) : At (w.setRow Y ds) X cs T := (setRow_other hn).trans h
theorem turn_rowW {c X : Nat} {u w : World} (t : Turn c u w) (hX : u.heap.size ≤ X) (cs : Array Value) : Turn c u (w.setRow X cs) :=
  ⟨t.1, t.2.1, by rw [setRow_size]; exact t.2.2.1, fun k hk hn => (setRow_other (by omega)).trans (t.2.2.2 k hk hn)⟩
theorem og_outW {α : Type} {enc : α → List Value} {c T U B Y : Nat} {w : World} {v : Value} {xs : List α} {cs : Array Value} (h : Og enc c T w B v xs) (hY : At w Y cs U) (hTU : T ≠ U) (ds : Array Value) : Og enc c T (w.setRow Y ds) B v xs :=
  og_tn h (tn_row w Y ds) (fun b hb => own_ne h hY hTU b hb)
end Go.Proofs.YtioeidhblbfgmaaGreat
