/- The contracts of the landed reader's node, digest, news and seen. The bytes are at most 2^47. -/
import Derived.Test.YtioeidhblbfgmaaGreatY24
import Derived.Test.YtioeidhblbfgmaaGreatY36

namespace Go.Proofs.YtioeidhblbfgmaaGreat
open Go.ChangeShapes Go.WideShapes Go.ChangeAt Go.RowKit
set_option linter.unusedVariables false
set_option linter.unusedSimpArgs false
set_option maxRecDepth 100000

theorem num_stop {s : ByteArray} {lo hi : Nat} {q : Int} {f n f' : Nat} {q' : Int} (hf : f ≠ 0) (h : numM s lo hi (q, f) = (n, (q', f'))) : f' = f := by
  unfold numM at h
  rw [if_neg hf] at h
  injection h with h1 h2
  injection h2 with h2 h3
  exact h3.symm
theorem zeroN3 (w : World) : (zeroValue 79).run Tryz.prog w = .ok (.agg #[.int .u8 0, .int .u8 0, .int .u32 0]) w := by kernel_rfl
theorem zeroN5 (w : World) : (zeroValue 59).run Tryz.prog w = .ok (.agg #[.string ⟨#[]⟩, .int .u64 0, .int .u32 0, .int .u8 0, .int .u8 0]) w := by kernel_rfl
theorem cellsY3 {w : World} {X T : Nat} {a0 a1 a2 : Value} (h : At w X #[a0, a1, a2] T) : w.cell? ⟨X, 0, none⟩ = some a0 ∧ w.cell? ⟨X, 1, none⟩ = some a1 ∧ w.cell? ⟨X, 2, none⟩ = some a2 ∧ ∀ j, w.frozen? ⟨X, j, none⟩ = false := at_cells3 h
theorem cellsY5 {w : World} {X T : Nat} {a0 a1 a2 a3 a4 : Value} (h : At w X #[a0, a1, a2, a3, a4] T) : w.cell? ⟨X, 0, none⟩ = some a0 ∧ w.cell? ⟨X, 1, none⟩ = some a1 ∧ w.cell? ⟨X, 2, none⟩ = some a2 ∧ w.cell? ⟨X, 3, none⟩ = some a3 ∧ w.cell? ⟨X, 4, none⟩ = some a4 ∧ ∀ j, w.frozen? ⟨X, j, none⟩ = false := at_cells5 h
def set5 (w : World) (G : Nat) (a0 a1 a2 a3 a4 : Value) : World := ((((w.setCell ⟨G, 0, none⟩ a0).setCell ⟨G, 1, none⟩ a1).setCell ⟨G, 2, none⟩ a2).setCell ⟨G, 3, none⟩ a3).setCell ⟨G, 4, none⟩ a4
theorem at_set5 {w : World} {G T : Nat} {v0 v1 v2 v3 v4 : Value} (h : At w G #[v0, v1, v2, v3, v4] T) (a0 a1 a2 a3 a4 : Value) : At (set5 w G a0 a1 a2 a3 a4) G #[a0, a1, a2, a3, a4] T := by
  have h0 : At (w.setCell ⟨G, 0, none⟩ a0) G #[a0, v1, v2, v3, v4] T := at_set h 0 a0
  have h1 : At ((w.setCell ⟨G, 0, none⟩ a0).setCell ⟨G, 1, none⟩ a1) G #[a0, a1, v2, v3, v4] T := at_set h0 1 a1
  have h2 : At (((w.setCell ⟨G, 0, none⟩ a0).setCell ⟨G, 1, none⟩ a1).setCell ⟨G, 2, none⟩ a2) G #[a0, a1, a2, v3, v4] T := at_set h1 2 a2
  have h3 : At ((((w.setCell ⟨G, 0, none⟩ a0).setCell ⟨G, 1, none⟩ a1).setCell ⟨G, 2, none⟩ a2).setCell ⟨G, 3, none⟩ a3) G #[a0, a1, a2, a3, v4] T := at_set h2 3 a3
  exact at_set h3 4 a4
theorem at_out5 {w : World} {X T G : Nat} {cs : Array Value} (h : At w X cs T) (hn : X ≠ G) (a0 a1 a2 a3 a4 : Value) : At (set5 w G a0 a1 a2 a3 a4) X cs T := at_other (at_other (at_other (at_other (at_other h hn _ _) hn _ _) hn _ _) hn _ _) hn _ _
theorem turn_new3 {c X : Nat} {u w : World} (h : Turn c u w) (hX : u.heap.size ≤ X) (a0 a1 a2 : Value) : Turn c u (set3 w X a0 a1 a2) := turn_new (turn_new (turn_new h hX 0 a0) hX 1 a1) hX 2 a2
theorem turn_new5 {c X : Nat} {u w : World} (h : Turn c u w) (hX : u.heap.size ≤ X) (a0 a1 a2 a3 a4 : Value) : Turn c u (set5 w X a0 a1 a2 a3 a4) := turn_new (turn_new (turn_new (turn_new (turn_new h hX 0 a0) hX 1 a1) hX 2 a2) hX 3 a3) hX 4 a4
theorem resC3 {fn : Func} {p : Tmp} (h : fn.results = #[.cell p 79]) (tmps : Array Value) {w : World} {X T : Nat} {a0 a1 a2 : Value} (hp : tmps.getD p undef = .pointer (some ⟨X, 0, none⟩)) (hA : At w X #[a0, a1, a2] T) : (results fn tmps).run Tryz.prog w = .ok (.agg #[a0, a1, a2]) w := by
  obtain ⟨c0, c1, c2, -⟩ := at_cells3 hA
  have hp' : tmps[p]?.getD undef = .pointer (some ⟨X, 0, none⟩) := by simpa using hp
  simp [results, h, go_sem, hp', c0, c1, c2]
theorem resC5 {fn : Func} {p : Tmp} (h : fn.results = #[.cell p 59]) (tmps : Array Value) {w : World} {X T : Nat} {a0 a1 a2 a3 a4 : Value} (hp : tmps.getD p undef = .pointer (some ⟨X, 0, none⟩)) (hA : At w X #[a0, a1, a2, a3, a4] T) : (results fn tmps).run Tryz.prog w = .ok (.agg #[a0, a1, a2, a3, a4]) w := by
  obtain ⟨c0, c1, c2, c3, c4, -⟩ := at_cells5 hA
  have hp' : tmps[p]?.getD undef = .pointer (some ⟨X, 0, none⟩) := by simpa using hp
  simp [results, h, go_sem, hp', c0, c1, c2, c3, c4]
set_option maxHeartbeats 3200000 in
theorem ldNode_any (s : ByteArray) (hs : s.size ≤ 140737488355328) (p : Int) (X : Nat) (w : World) (h : In X s p w) :
    Calls Tryz.prog 98 #[.pointer (some ⟨X, 0, none⟩)] w (RdC (fun n : Nat => .int .u8 (n : Int)) s X (numM s 0 63 (p, 0)) w) := by
  obtain ⟨n, p1, f1, h1⟩ := trio (numM s 0 63 (p, 0))
  have C1 := ldNum_any s hs 0 63 p X w h
  have m1 := wrap8 (Nat.le_trans (num_le h1) (by omega))
  rw [h1] at C1 ⊢
  clear h1 h hs
  go_enter Tryz.func98, Tryz.ntmps98
  go_wp2_with fail
  refine C1.mono ?_
  rintro e w1 (⟨h0, rfl, hA, hT⟩ | ⟨h0, rfl, hT⟩)
  · have HA := hid hA
    have HT := hid hT
    simp only at h0
    subst h0
    clear hA hT
    go_wp2_with fail
    go_ret
    exact rdc_ok rfl rfl HA.out HT.out
  · have HT := hid hT
    clear hT
    go_wp2_with fail
    exact ⟨rfl, rdc_no rfl h0 rfl HT.out⟩
set_option maxHeartbeats 3200000 in
theorem ldDig_any (s : ByteArray) (hs : s.size ≤ 140737488355328) (p : Int) (X : Nat) (w : World) (h : In X s p w) :
    Calls Tryz.prog 108 #[.pointer (some ⟨X, 0, none⟩)] w (RdC (fun n : Int => .int .u64 n) s X (digM s (p, 0)) w) := by
  obtain ⟨n1, p1, f1, h1⟩ := trio (numM s 0 4294967295 (p, 0))
  obtain ⟨n2, p2, f2, h2⟩ := trio (numM s 0 4294967295 (p1, f1))
  have HE : Hid (digM s (p, 0) = (((n1 * 4294967296 + n2 : Nat) : Int), (p2, f2))) := hid (by unfold digM; simp only [h1, h2])
  have u1 := num_le h1
  have u2 := num_le h2
  obtain ⟨z, hz9⟩ : ∃ z : Nat, n1 * 4294967296 + n2 = z := ⟨_, rfl⟩
  have hm1 : IntKind.u64.wrap ((n1 : Int) * 4294967296) = (n1 : Int) * 4294967296 := wrap64 (by omega)
  have hm2 : IntKind.u64.wrap ((n1 : Int) * 4294967296 + (n2 : Int)) = (z : Int) := by rw [wrap64 (by omega)]; omega
  rw [hz9] at HE
  clear hz9 u1 u2
  have C1 := ldNum_any s hs 0 4294967295 p X w h
  rw [h1] at C1
  generalize digM s (p, 0) = RR at *
  clear h1 h
  go_enter Tryz.func108, Tryz.ntmps108
  go_wp2_with fail
  refine C1.mono ?_
  rintro e w1 (⟨h0, rfl, hA, hT⟩ | ⟨h0, rfl, hT⟩)
  · have HT := hid hT
    simp only at h0
    subst h0
    have C2 := ldNum_any s hs 0 4294967295 p1 X w1 hA
    rw [h2] at C2
    clear hA hT C1 hs h2
    go_wp2_with fail
    refine C2.mono ?_
    rintro e w2 (⟨h0, rfl, hA, hT⟩ | ⟨h0, rfl, hT⟩)
    · have HA := hid hA
      have HT2 := hid (HT.out.trans hT)
      simp only at h0
      subst h0
      clear hA hT C2
      go_wp2_with fail
      go_ret
      exact rdc_ok HE.out rfl HA.out HT2.out
    · have HT2 := hid (HT.out.trans hT)
      clear hT C2
      go_wp2_with fail
      exact ⟨rfl, rdc_no HE.out h0 rfl HT2.out⟩
  · have HT := hid hT
    have e2 := num_stop h0 h2
    subst e2
    clear hT C1 h2 hs hm1 hm2
    go_wp2_with fail
    exact ⟨rfl, rdc_no HE.out h0 rfl HT.out⟩
set_option maxHeartbeats 12800000 in
theorem ldNews_any (s : ByteArray) (hs : s.size ≤ 140737488355328) (p : Int) (X : Nat) (w : World) (h : In X s p w) :
    Calls Tryz.prog 100 #[.pointer (some ⟨X, 0, none⟩)] w (RdC (fun x : Nw => .agg #[.int .u8 x.node, .int .u8 x.st, .int .u32 x.inc]) s X (newsM s (p, 0)) w) := by
  obtain ⟨n1, p1, f1, h1⟩ := trio (numM s 0 63 (p, 0))
  obtain ⟨n2, p2, f2, h2⟩ := trio (numM s 1 4 (p1, f1))
  obtain ⟨n3, p3, f3, h3⟩ := trio (numM s 0 4294967295 (p2, f2))
  have HE : Hid (newsM s (p, 0) = (⟨(n1 : Int), (n2 : Int), (n3 : Int)⟩, (p3, f3))) := hid (by unfold newsM; simp only [h1, h2, h3])
  generalize newsM s (p, 0) = RR at *
  have hz := zeroN3
  have k2 := kept_alloc (kept_alloc (kept_refl w) (.cells #[.int .u8 0, .int .u8 0, .int .u32 0] 79)) (.cells #[.int .u8 0, .int .u8 0, .int .u32 0] 79)
  have a1 := at_alloc (at_new w #[.int .u8 0, .int .u8 0, .int .u32 0] 79) (.cells #[.int .u8 0, .int .u8 0, .int .u32 0] 79)
  have a2 := at_new (w.alloc (.cells #[.int .u8 0, .int .u8 0, .int .u32 0] 79)) #[.int .u8 0, .int .u8 0, .int .u32 0] 79
  simp only [World.size_alloc] at a2
  have hXw := at_lt h
  have HI := hid (in_kept h k2)
  have HT0 := hid (turn_kept (c := X) k2)
  have HR := hid a1
  have HY := hid a2
  clear h k2 a1 a2
  have m2 := wrap8 (Nat.le_trans (num_le h2) (by omega))
  have m3 := wrap32 (num_le h3)
  go_enter Tryz.func100, Tryz.ntmps100
  go_wp2_with fail
  generalize (w.alloc (.cells #[.int .u8 0, .int .u8 0, .int .u32 0] 79)).alloc (.cells #[.int .u8 0, .int .u8 0, .int .u32 0] 79) = w0 at *
  generalize hY : w.heap.size + 1 = Y at *
  generalize hB : w.heap.size = B at *
  have HN : Hid (X ≠ Y ∧ X ≠ B ∧ B ≠ Y ∧ w.heap.size ≤ B ∧ w.heap.size ≤ Y) := hid (by omega)
  clear hY hB hXw
  have C1 := ldNode_any s hs p X w0 HI.out
  rw [h1] at C1
  refine C1.mono ?_
  rintro e w1 (⟨h0, rfl, hA, hT⟩ | ⟨h0, rfl, hT⟩)
  · simp only at h0
    subst h0
    have y1 := at_turn HY.out hT (Ne.symm HN.out.1)
    have HYn := hid (at_set y1 0 (.int .u8 (n1 : Int)))
    have HRn := hid (at_other (at_turn HR.out hT (Ne.symm HN.out.2.1)) HN.out.2.2.1 0 (.int .u8 (n1 : Int)))
    have HAn := hid (at_other hA HN.out.1 0 (.int .u8 (n1 : Int)))
    have HTn := hid (turn_new (HT0.out.trans hT) HN.out.2.2.2.2 0 (.int .u8 (n1 : Int)))
    obtain ⟨ya, yb, yc, yf⟩ := cellsY3 y1
    clear hA hT y1 C1 h1
    go_wp2_with fail
    generalize w1.setCell ⟨Y, 0, none⟩ (.int .u8 (n1 : Int)) = v1 at *
    clear ya yb yc yf
    have HI1 := HAn
    have HT1 := HTn
    have HY1 := HYn
    have HR1 := HRn
    clear HAn HTn HYn HRn
    have C2 := ldNum_any s hs 1 4 p1 X v1 HI1.out
    rw [h2] at C2
    refine C2.mono ?_
    rintro e w2 (⟨h0, rfl, hA, hT⟩ | ⟨h0, rfl, hT⟩)
    · simp only at h0
      subst h0
      have y1 := at_turn HY1.out hT (Ne.symm HN.out.1)
      have HYn := hid (at_set y1 1 (.int .u8 (n2 : Int)))
      have HRn := hid (at_other (at_turn HR1.out hT (Ne.symm HN.out.2.1)) HN.out.2.2.1 1 (.int .u8 (n2 : Int)))
      have HAn := hid (at_other hA HN.out.1 1 (.int .u8 (n2 : Int)))
      have HTn := hid (turn_new (HT1.out.trans hT) HN.out.2.2.2.2 1 (.int .u8 (n2 : Int)))
      obtain ⟨ya, yb, yc, yf⟩ := cellsY3 y1
      clear hA hT y1 C2 h2
      go_wp2_with fail
      generalize w2.setCell ⟨Y, 1, none⟩ (.int .u8 (n2 : Int)) = v2 at *
      clear ya yb yc yf
      have HI2 := HAn
      have HT2 := HTn
      have HY2 := HYn
      have HR2 := HRn
      clear HAn HTn HYn HRn
      have C3 := ldNum_any s hs 0 4294967295 p2 X v2 HI2.out
      rw [h3] at C3
      refine C3.mono ?_
      rintro e w3 (⟨h0, rfl, hA, hT⟩ | ⟨h0, rfl, hT⟩)
      · simp only at h0
        subst h0
        have y1 := at_turn HY2.out hT (Ne.symm HN.out.1)
        have HYn := hid (at_set y1 2 (.int .u32 (n3 : Int)))
        have HRn := hid (at_other (at_turn HR2.out hT (Ne.symm HN.out.2.1)) HN.out.2.2.1 2 (.int .u32 (n3 : Int)))
        have HAn := hid (at_other hA HN.out.1 2 (.int .u32 (n3 : Int)))
        have HTn := hid (turn_new (HT2.out.trans hT) HN.out.2.2.2.2 2 (.int .u32 (n3 : Int)))
        obtain ⟨ya, yb, yc, yf⟩ := cellsY3 y1
        clear hA hT y1 C3 h3
        have HI3 := HAn
        have HT3 := HTn
        have HY3 := HYn
        have HR3 := HRn
        clear HAn HTn HYn HRn
        have HRe := hid (at_set3 HR3.out (.int .u8 (n1 : Int)) (.int .u8 (n2 : Int)) (.int .u32 (n3 : Int)))
        have HIe := hid (at_out3 HI3.out HN.out.2.1 (.int .u8 (n1 : Int)) (.int .u8 (n2 : Int)) (.int .u32 (n3 : Int)))
        have HTe := hid (turn_new3 HT3.out HN.out.2.2.2.1 (.int .u8 (n1 : Int)) (.int .u8 (n2 : Int)) (.int .u32 (n3 : Int)))
        unfold set3 at HRe HIe HTe
        obtain ⟨ra, rb, rc, rf⟩ := cellsY3 HR3.out
        have nBY := HN.out.2.2.1
        have nYB := Ne.symm HN.out.2.2.1
        clear HI3 HT3 HY3 HR3
        go_wp2_with fail
        exact bodyPost_ret (resC3 Tryz.results100 _ rfl HRe.out) rfl (rdc_ok HE.out rfl HIe.out HTe.out)
      · simp only at h0
        have HTn := hid (HT2.out.trans hT)
        clear hT C3
        go_wp2_with fail
        exact ⟨rfl, rdc_no HE.out h0 rfl HTn.out⟩
    · simp only at h0
      have e3 := num_stop h0 h3
      subst e3
      have HTn := hid (HT1.out.trans hT)
      clear hT C2
      go_wp2_with fail
      exact ⟨rfl, rdc_no HE.out h0 rfl HTn.out⟩
  · simp only at h0
    have e2 := num_stop h0 h2
    subst e2
    have e3 := num_stop h0 h3
    subst e3
    have HTn := hid (HT0.out.trans hT)
    clear hT C1
    go_wp2_with fail
    exact ⟨rfl, rdc_no HE.out h0 rfl HTn.out⟩
set_option maxHeartbeats 12800000 in
theorem ldSeen_any (s : ByteArray) (hs : s.size ≤ 140737488355328) (p : Int) (X : Nat) (w : World) (h : In X s p w) :
    Calls Tryz.prog 106 #[.pointer (some ⟨X, 0, none⟩)] w (RdC (fun x : Sn => .agg #[.string x.key, .int .u64 x.s.p, .int .u32 x.s.l, .int .u8 x.s.n, .int .u8 x.kind]) s X (seenM s (p, 0)) w) := by
  obtain ⟨n1, p1, f1, h1⟩ := trio (keyM s (p, 0))
  obtain ⟨n2, p2, f2, h2⟩ := trio (numM s 0 281474976710655 (p1, f1))
  obtain ⟨n3, p3, f3, h3⟩ := trio (numM s 0 4294967295 (p2, f2))
  obtain ⟨n4, p4, f4, h4⟩ := trio (numM s 0 63 (p3, f3))
  obtain ⟨n5, p5, f5, h5⟩ := trio (numM s 1 3 (p4, f4))
  have HE : Hid (seenM s (p, 0) = (⟨n1, ⟨(n2 : Int), (n3 : Int), (n4 : Int)⟩, (n5 : Int)⟩, (p5, f5))) := hid (by unfold seenM; simp only [h1, h2, h3, h4, h5])
  generalize seenM s (p, 0) = RR at *
  have hz := zeroN5
  have k2 := kept_alloc (kept_alloc (kept_refl w) (.cells #[.string ⟨#[]⟩, .int .u64 0, .int .u32 0, .int .u8 0, .int .u8 0] 59)) (.cells #[.string ⟨#[]⟩, .int .u64 0, .int .u32 0, .int .u8 0, .int .u8 0] 59)
  have a1 := at_alloc (at_new w #[.string ⟨#[]⟩, .int .u64 0, .int .u32 0, .int .u8 0, .int .u8 0] 59) (.cells #[.string ⟨#[]⟩, .int .u64 0, .int .u32 0, .int .u8 0, .int .u8 0] 59)
  have a2 := at_new (w.alloc (.cells #[.string ⟨#[]⟩, .int .u64 0, .int .u32 0, .int .u8 0, .int .u8 0] 59)) #[.string ⟨#[]⟩, .int .u64 0, .int .u32 0, .int .u8 0, .int .u8 0] 59
  simp only [World.size_alloc] at a2
  have hXw := at_lt h
  have HI := hid (in_kept h k2)
  have HT0 := hid (turn_kept (c := X) k2)
  have HR := hid a1
  have HY := hid a2
  clear h k2 a1 a2
  have m3 := wrap32 (num_le h3)
  have m5 := wrap8 (Nat.le_trans (num_le h5) (by omega))
  go_enter Tryz.func106, Tryz.ntmps106
  go_wp2_with fail
  generalize (w.alloc (.cells #[.string ⟨#[]⟩, .int .u64 0, .int .u32 0, .int .u8 0, .int .u8 0] 59)).alloc (.cells #[.string ⟨#[]⟩, .int .u64 0, .int .u32 0, .int .u8 0, .int .u8 0] 59) = w0 at *
  generalize hY : w.heap.size + 1 = Y at *
  generalize hB : w.heap.size = B at *
  have HN : Hid (X ≠ Y ∧ X ≠ B ∧ B ≠ Y ∧ w.heap.size ≤ B ∧ w.heap.size ≤ Y) := hid (by omega)
  clear hY hB hXw
  have C1 := ldKey_any s hs p X w0 HI.out
  rw [h1] at C1
  refine C1.mono ?_
  rintro e w1 (⟨h0, rfl, hA, hT⟩ | ⟨h0, rfl, hT⟩)
  · simp only at h0
    subst h0
    have y1 := at_turn HY.out hT (Ne.symm HN.out.1)
    have HYn := hid (at_set y1 0 (.string n1))
    have HRn := hid (at_other (at_turn HR.out hT (Ne.symm HN.out.2.1)) HN.out.2.2.1 0 (.string n1))
    have HAn := hid (at_other hA HN.out.1 0 (.string n1))
    have HTn := hid (turn_new (HT0.out.trans hT) HN.out.2.2.2.2 0 (.string n1))
    obtain ⟨ya, yb, yc, yd, ye, yf⟩ := cellsY5 y1
    clear hA hT y1 C1 h1
    go_wp2_with fail
    generalize w1.setCell ⟨Y, 0, none⟩ (.string n1) = v1 at *
    clear ya yb yc yd ye yf
    have HI1 := HAn
    have HT1 := HTn
    have HY1 := HYn
    have HR1 := HRn
    clear HAn HTn HYn HRn
    have C2 := ldNum_any s hs 0 281474976710655 p1 X v1 HI1.out
    rw [h2] at C2
    refine C2.mono ?_
    rintro e w2 (⟨h0, rfl, hA, hT⟩ | ⟨h0, rfl, hT⟩)
    · simp only at h0
      subst h0
      have y1 := at_turn HY1.out hT (Ne.symm HN.out.1)
      have HYn := hid (at_set y1 1 (.int .u64 (n2 : Int)))
      have HRn := hid (at_other (at_turn HR1.out hT (Ne.symm HN.out.2.1)) HN.out.2.2.1 1 (.int .u64 (n2 : Int)))
      have HAn := hid (at_other hA HN.out.1 1 (.int .u64 (n2 : Int)))
      have HTn := hid (turn_new (HT1.out.trans hT) HN.out.2.2.2.2 1 (.int .u64 (n2 : Int)))
      obtain ⟨ya, yb, yc, yd, ye, yf⟩ := cellsY5 y1
      clear hA hT y1 C2 h2
      go_wp2_with fail
      generalize w2.setCell ⟨Y, 1, none⟩ (.int .u64 (n2 : Int)) = v2 at *
      clear ya yb yc yd ye yf
      have HI2 := HAn
      have HT2 := HTn
      have HY2 := HYn
      have HR2 := HRn
      clear HAn HTn HYn HRn
      have C3 := ldNum_any s hs 0 4294967295 p2 X v2 HI2.out
      rw [h3] at C3
      refine C3.mono ?_
      rintro e w3 (⟨h0, rfl, hA, hT⟩ | ⟨h0, rfl, hT⟩)
      · simp only at h0
        subst h0
        have y1 := at_turn HY2.out hT (Ne.symm HN.out.1)
        have HYn := hid (at_set y1 2 (.int .u32 (n3 : Int)))
        have HRn := hid (at_other (at_turn HR2.out hT (Ne.symm HN.out.2.1)) HN.out.2.2.1 2 (.int .u32 (n3 : Int)))
        have HAn := hid (at_other hA HN.out.1 2 (.int .u32 (n3 : Int)))
        have HTn := hid (turn_new (HT2.out.trans hT) HN.out.2.2.2.2 2 (.int .u32 (n3 : Int)))
        obtain ⟨ya, yb, yc, yd, ye, yf⟩ := cellsY5 y1
        clear hA hT y1 C3 h3
        go_wp2_with fail
        generalize w3.setCell ⟨Y, 2, none⟩ (.int .u32 (n3 : Int)) = v3 at *
        clear ya yb yc yd ye yf
        have HI3 := HAn
        have HT3 := HTn
        have HY3 := HYn
        have HR3 := HRn
        clear HAn HTn HYn HRn
        have C4 := ldNode_any s hs p3 X v3 HI3.out
        rw [h4] at C4
        refine C4.mono ?_
        rintro e w4 (⟨h0, rfl, hA, hT⟩ | ⟨h0, rfl, hT⟩)
        · simp only at h0
          subst h0
          have y1 := at_turn HY3.out hT (Ne.symm HN.out.1)
          have HYn := hid (at_set y1 3 (.int .u8 (n4 : Int)))
          have HRn := hid (at_other (at_turn HR3.out hT (Ne.symm HN.out.2.1)) HN.out.2.2.1 3 (.int .u8 (n4 : Int)))
          have HAn := hid (at_other hA HN.out.1 3 (.int .u8 (n4 : Int)))
          have HTn := hid (turn_new (HT3.out.trans hT) HN.out.2.2.2.2 3 (.int .u8 (n4 : Int)))
          obtain ⟨ya, yb, yc, yd, ye, yf⟩ := cellsY5 y1
          clear hA hT y1 C4 h4
          go_wp2_with fail
          generalize w4.setCell ⟨Y, 3, none⟩ (.int .u8 (n4 : Int)) = v4 at *
          clear ya yb yc yd ye yf
          have HI4 := HAn
          have HT4 := HTn
          have HY4 := HYn
          have HR4 := HRn
          clear HAn HTn HYn HRn
          have C5 := ldNum_any s hs 1 3 p4 X v4 HI4.out
          rw [h5] at C5
          refine C5.mono ?_
          rintro e w5 (⟨h0, rfl, hA, hT⟩ | ⟨h0, rfl, hT⟩)
          · simp only at h0
            subst h0
            have y1 := at_turn HY4.out hT (Ne.symm HN.out.1)
            have HYn := hid (at_set y1 4 (.int .u8 (n5 : Int)))
            have HRn := hid (at_other (at_turn HR4.out hT (Ne.symm HN.out.2.1)) HN.out.2.2.1 4 (.int .u8 (n5 : Int)))
            have HAn := hid (at_other hA HN.out.1 4 (.int .u8 (n5 : Int)))
            have HTn := hid (turn_new (HT4.out.trans hT) HN.out.2.2.2.2 4 (.int .u8 (n5 : Int)))
            obtain ⟨ya, yb, yc, yd, ye, yf⟩ := cellsY5 y1
            clear hA hT y1 C5 h5
            have HI5 := HAn
            have HT5 := HTn
            have HY5 := HYn
            have HR5 := HRn
            clear HAn HTn HYn HRn
            have HRe := hid (at_set5 HR5.out (.string n1) (.int .u64 (n2 : Int)) (.int .u32 (n3 : Int)) (.int .u8 (n4 : Int)) (.int .u8 (n5 : Int)))
            have HIe := hid (at_out5 HI5.out HN.out.2.1 (.string n1) (.int .u64 (n2 : Int)) (.int .u32 (n3 : Int)) (.int .u8 (n4 : Int)) (.int .u8 (n5 : Int)))
            have HTe := hid (turn_new5 HT5.out HN.out.2.2.2.1 (.string n1) (.int .u64 (n2 : Int)) (.int .u32 (n3 : Int)) (.int .u8 (n4 : Int)) (.int .u8 (n5 : Int)))
            unfold set5 at HRe HIe HTe
            obtain ⟨ra, rb, rc, rd, re, rf⟩ := cellsY5 HR5.out
            have nBY := HN.out.2.2.1
            have nYB := Ne.symm HN.out.2.2.1
            clear HI5 HT5 HY5 HR5
            go_wp2_with fail
            exact bodyPost_ret (resC5 Tryz.results106 _ rfl HRe.out) rfl (rdc_ok HE.out rfl HIe.out HTe.out)
          · simp only at h0
            have HTn := hid (HT4.out.trans hT)
            clear hT C5
            go_wp2_with fail
            exact ⟨rfl, rdc_no HE.out h0 rfl HTn.out⟩
        · simp only at h0
          have e5 := num_stop h0 h5
          subst e5
          have HTn := hid (HT3.out.trans hT)
          clear hT C4
          go_wp2_with fail
          exact ⟨rfl, rdc_no HE.out h0 rfl HTn.out⟩
      · simp only at h0
        have e4 := num_stop h0 h4
        subst e4
        have e5 := num_stop h0 h5
        subst e5
        have HTn := hid (HT2.out.trans hT)
        clear hT C3
        go_wp2_with fail
        exact ⟨rfl, rdc_no HE.out h0 rfl HTn.out⟩
    · simp only at h0
      have e3 := num_stop h0 h3
      subst e3
      have e4 := num_stop h0 h4
      subst e4
      have e5 := num_stop h0 h5
      subst e5
      have HTn := hid (HT1.out.trans hT)
      clear hT C2
      go_wp2_with fail
      exact ⟨rfl, rdc_no HE.out h0 rfl HTn.out⟩
  · simp only at h0
    have e2 := num_stop h0 h2
    subst e2
    have e3 := num_stop h0 h3
    subst e3
    have e4 := num_stop h0 h4
    subst e4
    have e5 := num_stop h0 h5
    subst e5
    have HTn := hid (HT0.out.trans hT)
    clear hT C1
    go_wp2_with fail
    exact ⟨rfl, rdc_no HE.out h0 rfl HTn.out⟩
end Go.Proofs.YtioeidhblbfgmaaGreat
